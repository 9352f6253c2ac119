import Derived.Test.YtllhmidpphlbhaaX13
import Derived.Test.YtllhmidpphlbhaaG37
namespace Go.Proofs.Ytllhmidpphlbhaa.ds
open Go.ChangeShapes Go.WideShapes Go.ChangeAt Go.RowKit Go.Sort
set_option linter.unusedVariables false
set_option linter.unusedSimpArgs false

/-! what a built page tells is the content -/
def wrOf (k : ByteArray) (c : Cw) : Wr := ⟨c.n, c.c, k, c.d, c.vs, c.xs⟩
theorem rsOf_w (B : List Nat) : rsOf B = ((wsR B).map (Pw.w B)).map (wrOf (keyOf B)) := by
  unfold rsOf wsR; rw [List.map_map]; rfl
theorem csOf_w (B : List Nat) : csOf B = (csR B).map cfn := rfl
theorem keyOf_w (B : List Nat) : keyOf B = strB (keyR B) := rfl
theorem wrOf_cw {r : Wr} (h : Stor r) : wrOf r.k (cwOf r) = r := by
  obtain ⟨n1, n2⟩ := h.n
  obtain ⟨c1, c2⟩ := h.c
  obtain ⟨n, c, k, d, vs, xs⟩ := r
  dsimp only at n1 n2 c1 c2
  unfold wrOf cwOf
  dsimp only
  rw [show ((n.toNat : Nat) : Int) = n from by omega, show ((c.toNat : Nat) : Int) = c from by omega]
theorem clOf_back : ∀ {cs : List (Int × List S)} {lo : Int}, 0 ≤ lo → eCls lo cs = 0 → (clOf cs).map cfn = cs
  | [], lo, h0, h => rfl
  | c :: l, lo, h0, h => by
    unfold eCls at h
    split at h
    · rename_i h1
      split at h
      · have ih := clOf_back (cs := l) (lo := c.1 + 1) (by omega) h
        show cfn (c.1.toNat, c.2) :: (clOf l).map cfn = _
        rw [ih]
        unfold cfn
        dsimp only
        rw [show ((c.1.toNat : Nat) : Int) = c.1 from by omega]
      · omega
    · omega
theorem headR_o (B : List Nat) (s : Ps) : ((headR B s).1.k ≠ 3 → (headR B s).1.o = 0) ∧ ((headR B s).1.k ≠ 1 → (headR B s).1.g = 0) := by
  unfold headR
  dsimp only
  split
  · rename_i h
    exact ⟨fun _ => rfl, fun k => absurd h k⟩
  · split
    · exact ⟨fun _ => rfl, fun _ => rfl⟩
    · split
      · rename_i h
        exact ⟨fun k => absurd h k, fun _ => rfl⟩
      · exact ⟨fun _ => rfl, fun _ => rfl⟩
theorem pcR_C {B : List Nat} {g : Nat} {cs : List (Nat × List S)} (h : pcR B = .clocks g cs) : (headR B ⟨0, false⟩).1.k = 1 ∧ (headR B ⟨0, false⟩).1.g = g ∧ csR B = cs := by
  unfold pcR at h
  split at h
  · rename_i k
    simp only [Pc.clocks.injEq] at h
    exact ⟨k, h.1, h.2⟩
  · split at h <;> cases h
theorem pcR_K {B : List Nat} {k : List Nat} {ws : List Cw} (h : pcR B = .key k ws) : (headR B ⟨0, false⟩).1.k = 2 ∧ keyR B = k ∧ (wsR B).map (Pw.w B) = ws := by
  unfold pcR at h
  split at h
  · cases h
  · split at h
    · rename_i k
      simp only [Pc.key.injEq] at h
      exact ⟨k, h.1, h.2⟩
    · cases h
theorem headR_3 {B : List Nat} {s : Ps} (h : (headR B s).1.k = 3) : (headR B s).1.m = 1 := by
  revert h
  unfold headR
  dsimp only
  split
  · rename_i h; intro k; dsimp only at k; omega
  · split
    · rename_i h; intro k; dsimp only at k; omega
    · split
      · intro _; rfl
      · rename_i h; intro k; exact absurd k h
theorem pcR_H {B : List Nat} {o : Nat} {k : List Nat} {w : Cw} (hb : (bodyR B).2.bad = false) (hB : B.length = 2048) (h8 : ∀ b ∈ B, b < 256) (h : pcR B = .hint o k w) : (headR B ⟨0, false⟩).1.k = 3 ∧ (headR B ⟨0, false⟩).1.o = o ∧ keyR B = k ∧ (wsR B).map (Pw.w B) = [w] := by
  have hk := (bodyR_go hB h8 hb).2.2
  rw [h] at hk
  have h3 : (headR B ⟨0, false⟩).1.k = 3 := hk.symm
  unfold pcR at h
  rw [if_neg (by rw [h3]; decide), if_neg (by rw [h3]; decide)] at h
  simp only [Pc.hint.injEq] at h
  have hm := headR_3 h3
  obtain ⟨h1, h2, h4⟩ := h
  refine ⟨h3, h1, h2, ?_⟩
  have hl : ((wsR B).map (Pw.w B)).length = 1 := by unfold wsR; rw [List.length_map, writesR_len, hm]
  match hq : (wsR B).map (Pw.w B), hl with
  | [x], _ => rw [hq] at h4; rw [← h4]; rfl
/-- what a built page tells -/
structure Bk (B : List Nat) (kd gn ow : Int) (cs : List (Int × List S)) (rs : List Wr) : Prop where
  len : B.length = 2048
  good : (endR B).bad = false
  k : ((headR B ⟨0, false⟩).1.k : Int) = (if kd = 1 then 1 else if kd = 2 then 2 else 3)
  g : ((headR B ⟨0, false⟩).1.g : Int) = (if kd = 1 then gn else 0)
  o : ((headR B ⟨0, false⟩).1.o : Int) = (if kd = 1 then 0 else if kd = 2 then 0 else ow)
  c : kd = 1 → csOf B = cs
  w : kd ≠ 1 → rsOf B = (if kd = 2 then rs else [gR rs 0])
  ck : checkR B = ((headR B ⟨0, false⟩).1.k, 0, 0)
theorem bk_of {kd gn ow : Int} {cs : List (Int × List S)} {rs : List Wr} (h : cE kd gn ow cs rs = 0) (h8 : L8 (pad (encPc (cP kd gn ow cs rs)))) : Bk (pad (encPc (cP kd gn ow cs rs))) kd gn ow cs rs := by
  obtain ⟨hv, hl⟩ := cP_len h
  obtain ⟨c1, c2, c3⟩ := check_pad hv
  have hb := endR_ok1 c3
  generalize hB : pad (encPc (cP kd gn ow cs rs)) = B at *
  have hck : checkR B = ((headR B ⟨0, false⟩).1.k, 0, 0) := by
    unfold checkR
    rw [if_pos hl, if_neg (by rw [c3]; decide)]
    rfl
  have hgo := headR_o B ⟨0, false⟩
  by_cases k1 : kd = 1
  · subst k1
    unfold cE at h
    rw [if_pos rfl] at h
    unfold cP at c2
    rw [if_pos rfl] at c2
    obtain ⟨e1, e2, e3⟩ := pcR_C c2
    have hg : 0 ≤ gn ∧ eCls 0 cs = 0 := by
      unfold eClocks at h
      split at h
      · rename_i q
        split at h
        · exact ⟨q.1, h⟩
        · omega
      · omega
    refine ⟨hl, c3, by rw [e1]; rfl, ?_, ?_, fun _ => ?_, fun k => absurd rfl k, hck⟩
    · rw [e2, if_pos rfl]; omega
    · rw [hgo.1 (by rw [e1]; decide), if_pos rfl]; rfl
    · rw [csOf_w, e3]; exact clOf_back (lo := 0) (by omega) hg.2
  · unfold cE at h
    rw [if_neg k1] at h
    unfold cP at c2
    rw [if_neg k1] at c2
    by_cases k2 : kd = 2
    · rw [if_pos k2] at h c2
      obtain ⟨e1, e2, e3⟩ := pcR_K c2
      have hm : ∀ r ∈ rs, r.k = (rs.headD pcK.Wr.z0).k ∧ Stor r := by
        cases rs with
        | nil => exact absurd h (by decide)
        | cons r l =>
          have h : eKey1 r l = 0 := h
          unfold eKey1 at h
          split at h
          · split at h
            · exact (VPws_of h).2
            · omega
          · omega
      refine ⟨hl, c3, by rw [e1, if_neg k1, if_pos k2]; rfl, ?_, ?_, fun k => absurd k k1, fun _ => ?_, hck⟩
      · rw [hgo.2 (by rw [e1]; decide), if_neg k1]; rfl
      · rw [hgo.1 (by rw [e1]; decide), if_neg k1, if_pos k2]; rfl
      · rw [if_pos k2, rsOf_w, e3, keyOf_w, e2, strB_bsk, List.map_map]
        refine (List.map_congr_left (fun r hr => ?_)).trans (List.map_id rs)
        obtain ⟨q1, q2⟩ := hm r hr
        show wrOf _ (cwOf r) = r
        rw [← q1]
        exact wrOf_cw q2
    · rw [if_neg k2] at h c2
      obtain ⟨e1, e2, e3, e4⟩ := pcR_H hb hl h8 c2
      have hs : (0 ≤ ow) ∧ Stor (gR rs 0) := by
        unfold eHint at h
        split at h
        · rename_i q
          split at h
          · split at h
            · rename_i q2; exact ⟨q.1, q2⟩
            · omega
          · omega
        · omega
      refine ⟨hl, c3, by rw [e1, if_neg k1, if_neg k2]; rfl, ?_, ?_, fun k => absurd k k1, fun _ => ?_, hck⟩
      · rw [hgo.2 (by rw [e1]; decide), if_neg k1]; rfl
      · rw [e2, if_neg k1, if_neg k2]; omega
      · rw [if_neg k2, rsOf_w, e4, keyOf_w, e3, strB_bsk]
        show [wrOf _ (cwOf _)] = _
        rw [wrOf_cw hs.2]
end Go.Proofs.Ytllhmidpphlbhaa.ds
namespace Go.Proofs.Ytllhmidpphlbhaa.ds
open Go.ChangeShapes Go.WideShapes Go.ChangeAt Go.RowKit Go.Sort
set_option linter.unusedVariables false
set_option linter.unusedSimpArgs false

/-! a page that is taken is built of what it tells -/
theorem eCls_of : ∀ {cs : List (Nat × List S)} {lo : Nat}, VCl lo cs → eCls lo (cs.map cfn) = 0
  | [], lo, h => rfl
  | c :: l, lo, h => by
    obtain ⟨⟨h1, h2, h3, h4⟩, h5⟩ := h
    have ih := eCls_of h5
    show eCls lo (cfn c :: l.map cfn) = 0
    unfold eCls
    rw [if_pos (by show (lo : Int) ≤ (c.1 : Int) ∧ (c.1 : Int) ≤ 15; omega), if_pos (show OkL 64 (cfn c).2 from ((VSp_iff _ _).1 h4).1.1)]
    exact ih
theorem clOf_cfn (cs : List (Nat × List S)) : clOf (cs.map cfn) = cs := by
  unfold clOf
  rw [List.map_map]
  refine (List.map_congr_left (fun c hc => ?_)).trans (List.map_id cs)
  show (((c.1 : Int)).toNat, c.2) = c
  rw [Int.toNat_natCast]
theorem cwOf_wr (k : ByteArray) (c : Cw) : cwOf (wrOf k c) = c := by
  unfold cwOf wrOf
  dsimp only
  rw [Int.toNat_natCast, Int.toNat_natCast]
theorem stor_of {k : ByteArray} (hk : 1 ≤ k.size ∧ k.size ≤ 16) {an ac : Nat} {w : Cw} (h : VPw an ac w) : Stor (wrOf k w) := by
  obtain ⟨⟨h1, h2⟩, ⟨h3, h4⟩, h5, h6, h7⟩ := h
  have hc : 1 ≤ w.c := by unfold leastC at h3; split at h3 <;> omega
  obtain ⟨⟨g1, g2⟩, g3⟩ := (VSp_iff _ _).1 h7
  refine ⟨by show 0 ≤ (w.n : Int) ∧ (w.n : Int) ≤ 7; omega, by show 1 ≤ (w.c : Int) ∧ (w.c : Int) ≤ 1048576; omega, hk, h5, g1, ?_⟩
  exact (hasv_iff g1 h2 h4).2 g3
theorem eKeys_of {k : ByteArray} (hk : 1 ≤ k.size ∧ k.size ≤ 16) : ∀ {ws : List Cw} {an ac : Nat}, VPws an ac ws → eKeys k an ac (ws.map (wrOf k)) = 0
  | [], an, ac, h => rfl
  | w :: l, an, ac, h => by
    obtain ⟨h1, h2⟩ := h
    have ih := eKeys_of hk h2
    have hst := stor_of hk h1
    obtain ⟨⟨a1, a2⟩, ⟨a3, a4⟩, _⟩ := h1
    show eKeys k an ac (wrOf k w :: l.map (wrOf k)) = 0
    unfold eKeys
    rw [if_pos (by rfl), if_pos hst, if_pos ?_]
    · exact ih
    · refine ⟨by show (an : Int) ≤ (w.n : Int); omega, ?_⟩
      show leastI (an : Int) (ac : Int) (w.n : Int) ≤ (w.c : Int)
      unfold leastI
      unfold leastC at a3
      split
      · rename_i q
        rw [if_pos (by omega)] at a3; omega
      · rename_i q
        rw [if_neg (by omega)] at a3; omega
noncomputable def csT (B : List Nat) : List (Int × List S) := if (headR B ⟨0, false⟩).1.k = 1 then csOf B else []
noncomputable def rsT (B : List Nat) : List Wr := if (headR B ⟨0, false⟩).1.k = 1 then [] else rsOf B
theorem one_of {B : List Nat} (hB : B.length = 2048) (h8 : ∀ b ∈ B, b < 256) (h : (endR B).bad = false) : cE (headR B ⟨0, false⟩).1.k (headR B ⟨0, false⟩).1.g (headR B ⟨0, false⟩).1.o (csT B) (rsT B) = 0 ∧ pad (encPc (cP (headR B ⟨0, false⟩).1.k (headR B ⟨0, false⟩).1.g (headR B ⟨0, false⟩).1.o (csT B) (rsT B))) = B := by
  obtain ⟨hv, hp, -⟩ := check_one hB h8 h
  have hb := endR_ok1 h
  have hk := (bodyR_go hB h8 hb).2.2
  have hk : (pcR B).kind = (headR B ⟨0, false⟩).1.k := hk
  have hsz : ∀ l : List Nat, keyR B = l → (1 ≤ l.length ∧ l.length ≤ 16) → 1 ≤ (keyOf B).size ∧ (keyOf B).size ≤ 16 ∧ bsk (keyOf B) = l := by
    intro l e hl
    have h8l : ∀ b ∈ l, b < 256 := by
      intro b hb
      rw [← e] at hb
      unfold keyR at hb
      exact h8 b (List.mem_of_mem_drop (List.mem_of_mem_take hb))
    rw [keyOf_w, e, strB_size h8l, bsk_strB h8l]
    exact ⟨hl.1, hl.2, rfl⟩
  suffices hs : cE (headR B ⟨0, false⟩).1.k (headR B ⟨0, false⟩).1.g (headR B ⟨0, false⟩).1.o (csT B) (rsT B) = 0 ∧ cP (headR B ⟨0, false⟩).1.k (headR B ⟨0, false⟩).1.g (headR B ⟨0, false⟩).1.o (csT B) (rsT B) = pcR B by
    rw [hs.2]
    exact ⟨hs.1, hp.symm⟩
  unfold cE cP csT rsT
  cases hc : pcR B with
  | clocks g cs =>
    rw [hc] at hv
    obtain ⟨e1, e2, e3⟩ := pcR_C hc
    obtain ⟨v1, v2, v3⟩ := hv
    rw [if_pos (by rw [e1]; rfl), if_pos e1, if_pos (by rw [e1]; rfl), e2, csOf_w, e3]
    refine ⟨?_, ?_⟩
    · unfold eClocks
      rw [if_pos (by omega), if_pos (by rw [List.length_map]; exact v2)]
      exact eCls_of v3
    · unfold pcC
      rw [clOf_cfn, Int.toNat_natCast]
  | key k ws =>
    rw [hc] at hv
    obtain ⟨e1, e2, e3⟩ := pcR_K hc
    obtain ⟨v1, v2, v3⟩ := hv
    obtain ⟨s1, s2, s3⟩ := hsz k e2 v1
    rw [if_neg (by rw [e1]; decide), if_pos (by rw [e1]; rfl), if_neg (by rw [e1]; decide), if_neg (by rw [e1]; decide), if_pos (by rw [e1]; rfl), rsOf_w, e3]
    generalize keyOf B = ky at s1 s2 s3
    match ws, v2, v3 with
    | w :: l, v2, v3 =>
      refine ⟨?_, ?_⟩
      · show eKey1 (wrOf ky w) (l.map (wrOf ky)) = 0
        unfold eKey1
        rw [if_pos (by simpa using v2.2), if_pos (by exact ⟨s1, s2⟩)]
        exact eKeys_of ⟨s1, s2⟩ v3
      · unfold pcK
        rw [List.map_map]
        show Pc.key (bsk ky) _ = _
        rw [s3]
        congr 1
        refine (List.map_congr_left (fun c hc => ?_)).trans (List.map_id _)
        exact cwOf_wr ky c
  | hint o k w =>
    rw [hc] at hv
    obtain ⟨e1, e2, e3, e4⟩ := pcR_H hb hB h8 hc
    obtain ⟨v0, v1, v3⟩ := hv
    obtain ⟨s1, s2, s3⟩ := hsz k e3 v1
    rw [if_neg (by rw [e1]; decide), if_neg (by rw [e1]; decide), if_neg (by rw [e1]; decide), if_neg (by rw [e1]; decide), if_neg (by rw [e1]; decide), rsOf_w, e4, e2]
    generalize keyOf B = ky at s1 s2 s3
    refine ⟨?_, ?_⟩
    · show eHint (o : Int) (wrOf ky w) = 0
      unfold eHint
      rw [if_pos (by omega), if_pos (by exact ⟨s1, s2⟩), if_pos (stor_of ⟨s1, s2⟩ v3)]
    · show pcH (o : Int) (wrOf ky w) = _
      unfold pcH
      rw [cwOf_wr, Int.toNat_natCast]
      show Pc.hint o (bsk ky) w = _
      rw [s3]
end Go.Proofs.Ytllhmidpphlbhaa.ds
namespace Go.Proofs.Ytllhmidpphlbhaa.ds
open Go.ChangeShapes Go.WideShapes Go.ChangeAt Go.RowKit Go.Sort
set_option linter.unusedVariables false
set_option linter.unusedSimpArgs false

/-- what told answers of a good page -/
structure ToP (w : World) (B : List Nat) (r : Ending) (w' : World) : Prop where
  a : Apart [] w w'
  ex : ∃ (c : Ct) (ks : List Ck) (es : List E), r = .returned (.tuple #[.agg c.cs, .bool true]) ∧ c.kd = ((headR B ⟨0, false⟩).1.k : Nat) ∧ c.gn = ((headR B ⟨0, false⟩).1.g : Nat) ∧ c.ow = ((headR B ⟨0, false⟩).1.o : Nat) ∧ (Nw w w' 61 2 c.s (flatK ks) ∧ CL w w' ks (csT B)) ∧ Nw w w' 50 6 c.t (flatE es) ∧ WL w w' es (rsT B)
theorem Nw.none0 {w W : World} (a : Apart [] w W) (e size : Nat) : Nw w W e size slz [] := ⟨World.ownsRow_nil _ _ _ _, by simp [Sl.v, slz, Value.ownBlock], a⟩
set_option maxHeartbeats 16000000 in
set_option maxRecDepth 100000 in
theorem told_1 {w : World} {s : Sl} {B : List Nat} {V : Nat} (h : Pb w s B) (hn : s.n = 2048) (hv : Vw w V s) (hk : (headR B ⟨0, false⟩).1.k = 1) (hg : (endR B).bad = false) : Calls Try.prog 27 #[.pointer (some ⟨V, 0, none⟩)] w fun r w' => ToP w B r w' := by
  have HGD : Hid ((clocksR B (headR B ⟨0, false⟩).1.m 0 (headR B ⟨0, false⟩).2).2.bad = false) := by
    have := endR_ok1 hg
    unfold bodyR at this
    dsimp only at this
    rw [if_pos hk] at this
    exact this
  have HPB : Hid (∀ W, Apart [] w W → Pb W s B) := fun W a => h.kept0 a
  have HVW : Hid (∀ W, Apart [] w W → Vw W V s) := fun W a => keep0 a hv
  have HN := hid hn
  obtain ⟨k, HK⟩ : ∃ k, Hid (k = (headR B ⟨0, false⟩).1.k) := ⟨_, rfl⟩
  obtain ⟨g, HG⟩ : ∃ k, Hid (k = (headR B ⟨0, false⟩).1.g) := ⟨_, rfl⟩
  obtain ⟨o, HO⟩ : ∃ k, Hid (k = (headR B ⟨0, false⟩).1.o) := ⟨_, rfl⟩
  obtain ⟨m, HM⟩ : ∃ k, Hid (k = (headR B ⟨0, false⟩).1.m) := ⟨_, rfl⟩
  have HK1 : Hid (k = 1) := by unfold Hid; rw [HK.out]; exact hk
  have HC1 : Hid (∀ W, Apart [] w W → Calls Try.prog 29 #[.pointer (some ⟨V, 0, none⟩)] W fun e w' => e = .returned (.int .i64 (k : Nat)) ∧ Apart [] W w') := fun W a => by rw [HK.out]; exact vkind_ok (HPB.out W a) hn (HVW.out W a)
  have HC2 : Hid (∀ W, Apart [] w W → Calls Try.prog 30 #[.pointer (some ⟨V, 0, none⟩)] W fun e w' => e = .returned (.int .i64 (g : Nat)) ∧ Apart [] W w') := fun W a => by rw [HG.out]; exact vgen_ok (HPB.out W a) hn (HVW.out W a)
  have HC3 : Hid (∀ W, Apart [] w W → Calls Try.prog 31 #[.pointer (some ⟨V, 0, none⟩)] W fun e w' => e = .returned (.int .i64 (o : Nat)) ∧ Apart [] W w') := fun W a => by rw [HO.out]; exact vowner_ok (HPB.out W a) hn (HVW.out W a)
  have HC4 : Hid (∀ W, Apart [] w W → Calls Try.prog 20 #[.pointer (some ⟨V, 0, none⟩)] W fun e w' => e = .returned (.int .i64 (m : Nat)) ∧ Apart [] W w') := fun W a => by rw [HM.out]; exact vlen_ok (HPB.out W a) hn (HVW.out W a)
  have hm16 : m ≤ 16 := by rw [HM.out]; exact (headR_at B ⟨0, false⟩).2.2.2.1
  clear h hn hv hk hg
  obtain ⟨D, HXD⟩ : ∃ X, Hid (X = w.heap.size) := ⟨_, rfl⟩
  obtain ⟨w1, hw1⟩ : ∃ W, W = w.alloc (.cells #[.int .i64 0, .int .i64 0, .int .i64 0, .slice none 0 0, .slice none 0 0] 25) := ⟨_, rfl⟩
  have a1 : Apart [] w w1 := by rw [hw1]; exact (Apart.refl [] w).alloc _
  have HD1 : Hid (w1.heap[D]? = some (.cells #[.int .i64 0, .int .i64 0, .int .i64 0, .slice none 0 0, .slice none 0 0] 25 (0, 0))) := by unfold Hid; rw [HXD.out, hw1]; exact heap_alloc_new w _
  have HA1 := hid a1
  have HDw : Hid (w.heap.size ≤ D) := by unfold Hid; rw [HXD.out]; exact Nat.le_refl _
  clear a1
  go_enter Try.func27, Try.ntmps27
  go_upto_region 1 with fail
  rw [← hw1, ← HXD.out]
  clear hw1
  go_wp2_with fail
  refine (HC1.out w1 HA1.out).mono ?_
  rintro _ w2 ⟨rfl, a2⟩
  have HA2 := hid (HA1.out.trans a2)
  have HD2 := hid (keep0 a2 HD1.out)
  clear a2
  dsimp only
  go_wp2_with fail
  refine (HC2.out w2 HA2.out).mono ?_
  rintro _ w3 ⟨rfl, a3⟩
  have HA3 := hid (HA2.out.trans a3)
  have HD3 := hid (keep0 a3 HD2.out)
  clear a3
  dsimp only
  go_wp2_with fail
  refine (HC3.out w3 HA3.out).mono ?_
  rintro _ w4 ⟨rfl, a4⟩
  have HA4 := hid (HA3.out.trans a4)
  have HD4 := hid (keep0 a4 HD3.out)
  clear a4
  dsimp only
  obtain ⟨Y, HXY⟩ : ∃ X, Hid (X = w4.heap.size) := ⟨_, rfl⟩
  obtain ⟨w5, hw5⟩ : ∃ W, W = w4.alloc (.cells #[.int .i64 (k : Nat), .int .i64 (g : Nat), .int .i64 (o : Nat), .slice none 0 0, .slice none 0 0] 25) := ⟨_, rfl⟩
  have a5 : Apart [] w4 w5 := by rw [hw5]; exact (Apart.refl [] w4).alloc _
  have HY5 : Hid (w5.heap[Y]? = some (.cells (pgL k g o slz slz) 25 (0, 0))) := by unfold Hid; rw [HXY.out, hw5]; exact heap_alloc_new w4 _
  have HDY : Hid (D ≠ Y) := by unfold Hid; have := lt_of_heap HD4.out; rw [HXY.out]; omega
  have HYw : Hid (w.heap.size ≤ Y) := by unfold Hid; rw [HXY.out]; exact HA4.out.size
  have HA5 := hid (HA4.out.trans a5)
  have HD5 := hid (keep0 a5 HD4.out)
  clear a5 HC1 HC2 HC3
  go_upto_region 2 with fail
  rw [← hw5, ← HXY.out]
  clear hw5
  go_wp2_with fail
  refine (HC4.out w5 HA5.out).mono ?_
  rintro _ w6 ⟨rfl, a6⟩
  have HA6 := hid (HA5.out.trans a6)
  have HD6 := hid (keep0 a6 HD5.out)
  have HY6 := hid (keep0 a6 HY5.out)
  clear a6 HC4
  dsimp only
  have hm0 : ¬ ((m : Nat) : Int) < 0 := by omega
  have hm1 : ¬ ((m : Nat) : Int) > 16 := by omega
  go_wp2_with fail
  clear hm0 hm1
  go_loopw [6, 7, 8] (fun b _ _ wt => ∃ (i : Nat) (sk : Sl) (kk : List Ck), b = .int .i64 (i : Nat) ∧ i ≤ m ∧ TC w wt Y B k g o i sk kk ∧ wt.heap[D]? = some (.cells #[.int .i64 0, .int .i64 0, .int .i64 0, .slice none 0 0, .slice none 0 0] 25 (0, 0))) (fun b _ _ _ => m - (intOf b).toNat)
  case atStart => exact ⟨0, slz, [], rfl, Nat.zero_le _, ⟨HA6.out, HY6.out, Nw.none0 HA6.out _ _, rfl, rfl, fun j hj => by simp at hj⟩, HD6.out⟩
  case round =>
    obtain ⟨i, sk, kk, rfl, hile, hI, hD⟩ := hrel
    have HI := hid hI
    have HD := hid hD
    clear hI hD
    by_cases hlt : i < m
    · have hlti : ((i : Nat) : Int) < (m : Int) := by omega
      have hkb : (((k : Nat) : Int) == 1) = true := by rw [HK1.out]; rfl
      have y0 := crow HI.out.y 0 (.int .i64 (k : Nat)) rfl
      obtain ⟨q1, q2, q3⟩ := csOf_at (B := B) (i := i) (by rw [← HK.out]; exact HK1.out) (by rw [← HM.out]; exact hlt) HGD.out
      have hcall := vclock_ok (HPB.out wr HI.out.ap) HN.out (HVW.out wr HI.out.ap) (i : Int)
      have HQ : Hid (∀ e w', VcP wr B (i : Int) e w' → ∃ x : Sl, e = .returned (.tuple #[.agg #[.int .i64 ((lastC (clocksR B (i + 1) 0 (headR B ⟨0, false⟩).2).1).1 : Nat), .slice x.p x.n x.c], .int .i64 0]) ∧ Nw wr w' 85 3 x (flat (lastC (clocksR B (i + 1) 0 (headR B ⟨0, false⟩).2).1).2)) := fun e w' hh => by
        have := hh.ok q1 (by rw [Int.toNat_natCast]; exact q2)
        rw [Int.toNat_natCast] at this
        exact this
      have HQ3 := hid q3
      have HCALL := hid hcall
      clear q1 q2 q3 hcall
      generalize lastC (clocksR B (i + 1) 0 (headR B ⟨0, false⟩).2).1 = lc at HQ HQ3
      go_wp2_with fail
      refine HCALL.out.mono ?_
      intro e wa hh
      obtain ⟨x, rfl, hx⟩ := HQ.out e wa hh
      have hI3 : wr.heap.size ≤ wr.heap.size := Nat.le_refl _
      clear hh HCALL HQ y0 hI3
      dsimp only
      obtain ⟨X, HX⟩ : ∃ X, Hid (X = wa.heap.size) := ⟨_, rfl⟩
      obtain ⟨wb, hwb⟩ : ∃ V, V = wa.alloc (.cells #[.int .i64 (lc.1 : Nat), .slice x.p x.n x.c] 61) := ⟨_, rfl⟩
      have ab : Apart [] wa wb := by rw [hwb]; exact (Apart.refl [] wa).alloc _
      have hX : wb.heap[X]? = some (.cells #[.int .i64 (lc.1 : Nat), .slice x.p x.n x.c] 61 (0, 0)) := by rw [hwb, HX.out]; exact heap_alloc_new wa _
      obtain ⟨x0, x1⟩ := row2v hX
      obtain ⟨s2, W2, hrun, hy4, hI2, hbox⟩ := HI.out.next (by omega) HYw.out (hx.ap.trans ab) HQ3.out (hx.kept ab)
      have hD2 := hbox D _ HDY.out (keep0 (hx.ap.trans ab) HD.out)
      have v3 := crow (keep0 (hx.ap.trans ab) HI.out.y) 3 (.slice sk.p sk.n sk.c) rfl
      have u3 := crow hy4 3 (.slice sk.p sk.n sk.c) rfl
      have g3 := frozen_of_row _ _ 3 _ _ hy4
      have HRUN := hid hrun
      have HI2 := hid hI2
      have HD2 := hid hD2
      clear hrun hI2 hD2 hbox hy4 hX hx ab
      go_upto_region 10 with fail
      rw [← hwb, ← HX.out]
      clear hwb
      go_wp2_with fail
      refine (lnum_ok wb _).mono ?_
      rintro _ wn ⟨rfl, hwn⟩
      rw [hwn]
      clear hwn wn
      try dsimp only
      go_wp2_with (at_builtin; refine wpList_app2 rfl (.tmp 46) (.tmp 48) 22 22 rfl _ _ rfl rfl _ _ HRUN.out ?_)
      go_roundw
      case rel => exact ⟨i + 1, s2, _, by go_num, by omega, HI2.out, HD2.out⟩
      case measure => simp [intOf]; omega
    · have hlti : ¬ ((i : Nat) : Int) < (m : Int) := by omega
      have hme : i = m := by omega
      have HME := hid hme
      clear hme
      have y0 := crow HI.out.y 0 (.int .i64 (k : Nat)) rfl
      have y1 := crow HI.out.y 1 (.int .i64 (g : Nat)) rfl
      have y2 := crow HI.out.y 2 (.int .i64 (o : Nat)) rfl
      have y3 := crow HI.out.y 3 (.slice sk.p sk.n sk.c) rfl
      have y4 := crow HI.out.y 4 (.slice none 0 0) rfl
      obtain ⟨b0, b1, b2, b3, b4⟩ := row5v HD.out
      have p0 := frozen_of_row _ _ 0 _ _ HD.out
      have p1 := frozen_of_row _ _ 1 _ _ HD.out
      have p2 := frozen_of_row _ _ 2 _ _ HD.out
      have p3 := frozen_of_row _ _ 3 _ _ HD.out
      have p4 := frozen_of_row _ _ 4 _ _ HD.out
      obtain ⟨hFe, ae⟩ := set5 (.int .i64 (k : Nat)) (.int .i64 (g : Nat)) (.int .i64 (o : Nat)) (.slice sk.p sk.n sk.c) (.slice none 0 0) HD.out
      obtain ⟨we, hwe⟩ : ∃ V, V = (((((wr.setCell ⟨D, 0, none⟩ (.int .i64 (k : Nat))).setCell ⟨D, 1, none⟩ (.int .i64 (g : Nat))).setCell ⟨D, 2, none⟩ (.int .i64 (o : Nat))).setCell ⟨D, 3, none⟩ (.slice sk.p sk.n sk.c)).setCell ⟨D, 4, none⟩ (.slice none 0 0)) := ⟨_, rfl⟩
      rw [← hwe] at hFe ae
      have HFe := hid hFe
      have HAe : Hid (Apart [] w we) := HI.out.ap.trans' ae (fun y hy => by simp at hy; exact .inr (by rw [hy]; exact HDw.out))
      have HTK : Hid (TK [25] wr we) := TK.one ae HD.out (by simp)
      clear hFe ae
      go_wp2_with fail
      rw [← hwe]
      obtain ⟨d0, d1, d2, d3, d4⟩ := row5v HFe.out
      have HP : ToP w B (.returned (.tuple #[.agg #[.int .i64 (k : Nat), .int .i64 (g : Nat), .int .i64 (o : Nat), .slice sk.p sk.n sk.c, .slice none 0 0], .bool true])) we := by
        have hme := HME.out
        refine ⟨HAe.out, ⟨(k : Nat), (g : Nat), (o : Nat), sk, slz⟩, kk, [], rfl, by rw [HK.out], by rw [HG.out], by rw [HO.out], ?_⟩
        refine ⟨⟨HTK.out.nw HI.out.l HAe.out (by decide), ?_⟩, Nw.none0 HAe.out _ _, ?_⟩
        · have e := HI.out.li.keep HTK.out HAe.out (by decide)
          rw [hme, HM.out, ← csOf_len, List.take_length] at e
          unfold csT
          rw [if_pos (by rw [← HK.out]; exact HK1.out)]
          exact e
        · unfold rsT
          rw [if_pos (by rw [← HK.out]; exact HK1.out)]
          exact ⟨rfl, fun j hj => by simp at hj⟩
      refine bodyPost_ret (v := .tuple #[.agg #[.int .i64 (k : Nat), .int .i64 (g : Nat), .int .i64 (o : Nat), .slice sk.p sk.n sk.c, .slice none 0 0], .bool true]) ?_ rfl HP
      simp [results, Try.results27, go_sem, d0, d1, d2, d3, d4]
set_option maxHeartbeats 16000000 in
set_option maxRecDepth 100000 in
theorem told_2 {w : World} {s : Sl} {B : List Nat} {V : Nat} (h : Pb w s B) (hn : s.n = 2048) (hv : Vw w V s) (hk : (headR B ⟨0, false⟩).1.k ≠ 1) (hg : (endR B).bad = false) : Calls Try.prog 27 #[.pointer (some ⟨V, 0, none⟩)] w fun r w' => ToP w B r w' := by
  have HGD : Hid ((writesR B (headR B ⟨0, false⟩).1.m 0 0 (headR B ⟨0, false⟩).2).2.bad = false) := by
    have := endR_ok1 hg
    unfold bodyR at this
    dsimp only at this
    rw [if_neg hk] at this
    exact this
  have HPB : Hid (∀ W, Apart [] w W → Pb W s B) := fun W a => h.kept0 a
  have HVW : Hid (∀ W, Apart [] w W → Vw W V s) := fun W a => keep0 a hv
  have HN := hid hn
  obtain ⟨k, HK⟩ : ∃ k, Hid (k = (headR B ⟨0, false⟩).1.k) := ⟨_, rfl⟩
  obtain ⟨g, HG⟩ : ∃ k, Hid (k = (headR B ⟨0, false⟩).1.g) := ⟨_, rfl⟩
  obtain ⟨o, HO⟩ : ∃ k, Hid (k = (headR B ⟨0, false⟩).1.o) := ⟨_, rfl⟩
  obtain ⟨m, HM⟩ : ∃ k, Hid (k = (headR B ⟨0, false⟩).1.m) := ⟨_, rfl⟩
  have HK1 : Hid (k ≠ 1) := by unfold Hid; rw [HK.out]; exact hk
  have HC1 : Hid (∀ W, Apart [] w W → Calls Try.prog 29 #[.pointer (some ⟨V, 0, none⟩)] W fun e w' => e = .returned (.int .i64 (k : Nat)) ∧ Apart [] W w') := fun W a => by rw [HK.out]; exact vkind_ok (HPB.out W a) hn (HVW.out W a)
  have HC2 : Hid (∀ W, Apart [] w W → Calls Try.prog 30 #[.pointer (some ⟨V, 0, none⟩)] W fun e w' => e = .returned (.int .i64 (g : Nat)) ∧ Apart [] W w') := fun W a => by rw [HG.out]; exact vgen_ok (HPB.out W a) hn (HVW.out W a)
  have HC3 : Hid (∀ W, Apart [] w W → Calls Try.prog 31 #[.pointer (some ⟨V, 0, none⟩)] W fun e w' => e = .returned (.int .i64 (o : Nat)) ∧ Apart [] W w') := fun W a => by rw [HO.out]; exact vowner_ok (HPB.out W a) hn (HVW.out W a)
  have HC4 : Hid (∀ W, Apart [] w W → Calls Try.prog 20 #[.pointer (some ⟨V, 0, none⟩)] W fun e w' => e = .returned (.int .i64 (m : Nat)) ∧ Apart [] W w') := fun W a => by rw [HM.out]; exact vlen_ok (HPB.out W a) hn (HVW.out W a)
  have hm16 : m ≤ 16 := by rw [HM.out]; exact (headR_at B ⟨0, false⟩).2.2.2.1
  clear h hn hv hk hg
  obtain ⟨D, HXD⟩ : ∃ X, Hid (X = w.heap.size) := ⟨_, rfl⟩
  obtain ⟨w1, hw1⟩ : ∃ W, W = w.alloc (.cells #[.int .i64 0, .int .i64 0, .int .i64 0, .slice none 0 0, .slice none 0 0] 25) := ⟨_, rfl⟩
  have a1 : Apart [] w w1 := by rw [hw1]; exact (Apart.refl [] w).alloc _
  have HD1 : Hid (w1.heap[D]? = some (.cells #[.int .i64 0, .int .i64 0, .int .i64 0, .slice none 0 0, .slice none 0 0] 25 (0, 0))) := by unfold Hid; rw [HXD.out, hw1]; exact heap_alloc_new w _
  have HA1 := hid a1
  have HDw : Hid (w.heap.size ≤ D) := by unfold Hid; rw [HXD.out]; exact Nat.le_refl _
  clear a1
  go_enter Try.func27, Try.ntmps27
  go_upto_region 1 with fail
  rw [← hw1, ← HXD.out]
  clear hw1
  go_wp2_with fail
  refine (HC1.out w1 HA1.out).mono ?_
  rintro _ w2 ⟨rfl, a2⟩
  have HA2 := hid (HA1.out.trans a2)
  have HD2 := hid (keep0 a2 HD1.out)
  clear a2
  dsimp only
  go_wp2_with fail
  refine (HC2.out w2 HA2.out).mono ?_
  rintro _ w3 ⟨rfl, a3⟩
  have HA3 := hid (HA2.out.trans a3)
  have HD3 := hid (keep0 a3 HD2.out)
  clear a3
  dsimp only
  go_wp2_with fail
  refine (HC3.out w3 HA3.out).mono ?_
  rintro _ w4 ⟨rfl, a4⟩
  have HA4 := hid (HA3.out.trans a4)
  have HD4 := hid (keep0 a4 HD3.out)
  clear a4
  dsimp only
  obtain ⟨Y, HXY⟩ : ∃ X, Hid (X = w4.heap.size) := ⟨_, rfl⟩
  obtain ⟨w5, hw5⟩ : ∃ W, W = w4.alloc (.cells #[.int .i64 (k : Nat), .int .i64 (g : Nat), .int .i64 (o : Nat), .slice none 0 0, .slice none 0 0] 25) := ⟨_, rfl⟩
  have a5 : Apart [] w4 w5 := by rw [hw5]; exact (Apart.refl [] w4).alloc _
  have HY5 : Hid (w5.heap[Y]? = some (.cells (pgL k g o slz slz) 25 (0, 0))) := by unfold Hid; rw [HXY.out, hw5]; exact heap_alloc_new w4 _
  have HDY : Hid (D ≠ Y) := by unfold Hid; have := lt_of_heap HD4.out; rw [HXY.out]; omega
  have HYw : Hid (w.heap.size ≤ Y) := by unfold Hid; rw [HXY.out]; exact HA4.out.size
  have HA5 := hid (HA4.out.trans a5)
  have HD5 := hid (keep0 a5 HD4.out)
  clear a5 HC1 HC2 HC3
  go_upto_region 2 with fail
  rw [← hw5, ← HXY.out]
  clear hw5
  go_wp2_with fail
  refine (HC4.out w5 HA5.out).mono ?_
  rintro _ w6 ⟨rfl, a6⟩
  have HA6 := hid (HA5.out.trans a6)
  have HD6 := hid (keep0 a6 HD5.out)
  have HY6 := hid (keep0 a6 HY5.out)
  clear a6 HC4
  dsimp only
  have hm0 : ¬ ((m : Nat) : Int) < 0 := by omega
  have hm1 : ¬ ((m : Nat) : Int) > 16 := by omega
  go_wp2_with fail
  clear hm0 hm1
  go_loopw [6, 9, 10] (fun b _ _ wt => ∃ (i : Nat) (sk : Sl) (kk : List E), b = .int .i64 (i : Nat) ∧ i ≤ m ∧ TW w wt Y B k g o i sk kk ∧ wt.heap[D]? = some (.cells #[.int .i64 0, .int .i64 0, .int .i64 0, .slice none 0 0, .slice none 0 0] 25 (0, 0))) (fun b _ _ _ => m - (intOf b).toNat)
  case atStart => exact ⟨0, slz, [], rfl, Nat.zero_le _, ⟨HA6.out, HY6.out, Nw.none0 HA6.out _ _, rfl, rfl, fun j hj => by simp at hj⟩, HD6.out⟩
  case round =>
    obtain ⟨i, sk, kk, rfl, hile, hI, hD⟩ := hrel
    have HI := hid hI
    have HD := hid hD
    clear hI hD
    by_cases hlt : i < m
    · have hlti : ((i : Nat) : Int) < (m : Int) := by omega
      have hkb : (((k : Nat) : Int) == 1) = false := by rw [beq_eq_false_iff_ne]; have := HK1.out; omega
      have y0 := crow HI.out.y 0 (.int .i64 (k : Nat)) rfl
      obtain ⟨q1, q3⟩ := rsOf_at (B := B) (i := i) (by rw [← HK.out]; exact HK1.out) (by rw [← HM.out]; exact hlt) HGD.out
      have hcall := vwriteW_ok (HPB.out wr HI.out.ap) HN.out (HVW.out wr HI.out.ap) (i : Int)
      obtain ⟨ke, Hke⟩ : ∃ k, Hid (k = keyOf B) := ⟨_, rfl⟩
      have HQ : Hid (∀ e w', WvP wr B (i : Int) e w' → ∃ v x : Sl, e = .returned (.tuple #[.agg #[.int .i64 ((vPw B (i : Int)).n : Nat), .int .i64 ((vPw B (i : Int)).c : Nat), .string ke, .bool (vPw B (i : Int)).d, .slice v.p v.n v.c, .slice x.p x.n x.c], .int .i64 0]) ∧ Bf wr w' v ((B.drop (vPw B (i : Int)).vb).take (vPw B (i : Int)).vn) ∧ Nw wr w' 85 3 x (flat (vPw B (i : Int)).xs)) := fun e w' hh => by
        have := hh.ok q1
        rw [Hke.out]
        exact this
      rw [← Hke.out] at q3
      have HQ3 := hid q3
      have HCALL := hid hcall
      clear q1 q3 hcall
      unfold wfn at HQ3
      generalize vPw B (i : Int) = pw at HQ HQ3
      go_wp2_with fail
      refine HCALL.out.mono ?_
      intro e wa hh
      obtain ⟨v, x, rfl, hbv, hx⟩ := HQ.out e wa hh
      clear hh HCALL HQ y0
      obtain ⟨e1, He1⟩ : ∃ e : E, Hid (e = ⟨(pw.n : Nat), (pw.c : Nat), ke, pw.d, v, x⟩) := ⟨_, rfl⟩
      have q1 : ((pw.n : Nat) : Int) = e1.n := by rw [He1.out]
      have q2 : ((pw.c : Nat) : Int) = e1.c := by rw [He1.out]
      have q3 : ke = e1.k := by rw [He1.out]
      have q4 : pw.d = e1.d := by rw [He1.out]
      have q5 : (Value.slice v.p v.n v.c) = .slice e1.v.p e1.v.n e1.v.c := by rw [He1.out]
      have q6 : (Value.slice x.p x.n x.c) = .slice e1.x.p e1.x.n e1.x.c := by rw [He1.out]
      dsimp only
      rw [q5, q6, q1, q2, q3, q4]
      clear q1 q2 q3 q4 q5 q6
      obtain ⟨X, HX⟩ : ∃ X, Hid (X = wa.heap.size) := ⟨_, rfl⟩
      obtain ⟨wb, hwb⟩ : ∃ V, V = wa.alloc (.cells #[.int .i64 e1.n, .int .i64 e1.c, .string e1.k, .bool e1.d, .slice e1.v.p e1.v.n e1.v.c, .slice e1.x.p e1.x.n e1.x.c] 50) := ⟨_, rfl⟩
      have ab : Apart [] wa wb := by rw [hwb]; exact (Apart.refl [] wa).alloc _
      have hX : wb.heap[X]? = some (.cells #[.int .i64 e1.n, .int .i64 e1.c, .string e1.k, .bool e1.d, .slice e1.v.p e1.v.n e1.v.c, .slice e1.x.p e1.x.n e1.x.c] 50 (0, 0)) := by rw [hwb, HX.out]; exact heap_alloc_new wa _
      obtain ⟨x0, x1, x2, x3, x4, x5⟩ := rowv6 hX
      obtain ⟨s2, W2, hrun, hy4, hI2, hbox⟩ := HI.out.next (by omega) HYw.out (hx.ap.trans ab) e1 HQ3.out ⟨by rw [He1.out], by rw [He1.out], by rw [He1.out], by rw [He1.out]⟩ (by rw [He1.out]; exact hbv.kept ab) (by rw [He1.out]; exact hx.kept ab)
      have hD2 := hbox D _ HDY.out (keep0 (hx.ap.trans ab) HD.out)
      have v3 := crow (keep0 (hx.ap.trans ab) HI.out.y) 4 (.slice sk.p sk.n sk.c) rfl
      have u3 := crow hy4 4 (.slice sk.p sk.n sk.c) rfl
      have g3 := frozen_of_row _ _ 4 _ _ hy4
      have HRUN := hid hrun
      have HI2 := hid hI2
      have HD2 := hid hD2
      clear hrun hI2 hD2 hbox hy4 hX hx ab hbv
      go_upto_region 14 with fail
      rw [← hwb, ← HX.out]
      clear hwb
      go_wp2_with fail
      refine (lnum_ok wb _).mono ?_
      rintro _ wn ⟨rfl, hwn⟩
      rw [hwn]
      clear hwn wn
      try dsimp only
      go_wp2_with (at_builtin; refine wpList_app2 rfl (.tmp 62) (.tmp 64) 23 23 rfl _ _ rfl rfl _ _ HRUN.out ?_)
      go_roundw
      case rel => exact ⟨i + 1, s2, _, by go_num, by omega, HI2.out, HD2.out⟩
      case measure => simp [intOf]; omega
    · have hlti : ¬ ((i : Nat) : Int) < (m : Int) := by omega
      have hme : i = m := by omega
      have HME := hid hme
      clear hme
      have y0 := crow HI.out.y 0 (.int .i64 (k : Nat)) rfl
      have y1 := crow HI.out.y 1 (.int .i64 (g : Nat)) rfl
      have y2 := crow HI.out.y 2 (.int .i64 (o : Nat)) rfl
      have y3 := crow HI.out.y 3 (.slice none 0 0) rfl
      have y4 := crow HI.out.y 4 (.slice sk.p sk.n sk.c) rfl
      obtain ⟨b0, b1, b2, b3, b4⟩ := row5v HD.out
      have p0 := frozen_of_row _ _ 0 _ _ HD.out
      have p1 := frozen_of_row _ _ 1 _ _ HD.out
      have p2 := frozen_of_row _ _ 2 _ _ HD.out
      have p3 := frozen_of_row _ _ 3 _ _ HD.out
      have p4 := frozen_of_row _ _ 4 _ _ HD.out
      obtain ⟨hFe, ae⟩ := set5 (.int .i64 (k : Nat)) (.int .i64 (g : Nat)) (.int .i64 (o : Nat)) (.slice none 0 0) (.slice sk.p sk.n sk.c) HD.out
      obtain ⟨we, hwe⟩ : ∃ V, V = (((((wr.setCell ⟨D, 0, none⟩ (.int .i64 (k : Nat))).setCell ⟨D, 1, none⟩ (.int .i64 (g : Nat))).setCell ⟨D, 2, none⟩ (.int .i64 (o : Nat))).setCell ⟨D, 3, none⟩ (.slice none 0 0)).setCell ⟨D, 4, none⟩ (.slice sk.p sk.n sk.c)) := ⟨_, rfl⟩
      rw [← hwe] at hFe ae
      have HFe := hid hFe
      have HAe : Hid (Apart [] w we) := HI.out.ap.trans' ae (fun y hy => by simp at hy; exact .inr (by rw [hy]; exact HDw.out))
      have HTK : Hid (TK [25] wr we) := TK.one ae HD.out (by simp)
      clear hFe ae
      go_wp2_with fail
      rw [← hwe]
      obtain ⟨d0, d1, d2, d3, d4⟩ := row5v HFe.out
      have HP : ToP w B (.returned (.tuple #[.agg #[.int .i64 (k : Nat), .int .i64 (g : Nat), .int .i64 (o : Nat), .slice none 0 0, .slice sk.p sk.n sk.c], .bool true])) we := by
        have hme := HME.out
        refine ⟨HAe.out, ⟨(k : Nat), (g : Nat), (o : Nat), slz, sk⟩, [], kk, rfl, by rw [HK.out], by rw [HG.out], by rw [HO.out], ?_⟩
        refine ⟨⟨Nw.none0 HAe.out _ _, ?_⟩, HTK.out.nw HI.out.l HAe.out (by decide), ?_⟩
        · unfold csT
          rw [if_neg (by rw [← HK.out]; exact HK1.out)]
          exact ⟨rfl, fun j hj => by simp at hj⟩
        · have e := HI.out.li.keep HTK.out HAe.out (by decide) (by decide)
          rw [hme, HM.out, ← rsOf_len, List.take_length] at e
          unfold rsT
          rw [if_neg (by rw [← HK.out]; exact HK1.out)]
          exact e
      refine bodyPost_ret (v := .tuple #[.agg #[.int .i64 (k : Nat), .int .i64 (g : Nat), .int .i64 (o : Nat), .slice none 0 0, .slice sk.p sk.n sk.c], .bool true]) ?_ rfl HP
      simp [results, Try.results27, go_sem, d0, d1, d2, d3, d4]
theorem told_ok {w : World} {s : Sl} {B : List Nat} {V : Nat} (h : Pb w s B) (hn : s.n = 2048) (hv : Vw w V s) (hg : (endR B).bad = false) : Calls Try.prog 27 #[.pointer (some ⟨V, 0, none⟩)] w fun r w' => ToP w B r w' := by
  by_cases hk : (headR B ⟨0, false⟩).1.k = 1
  · exact told_1 h hn hv hk hg
  · exact told_2 h hn hv hk hg
end Go.Proofs.Ytllhmidpphlbhaa.ds
namespace Go.Proofs.Ytllhmidpphlbhaa.ds
open Go.ChangeShapes Go.WideShapes Go.ChangeAt Go.RowKit Go.Sort
set_option linter.unusedVariables false
set_option linter.unusedSimpArgs false

theorem clocksR_8 (B : List Nat) : ∀ (m lo : Nat) (s : Ps), ∀ p ∈ (clocksR B m lo s).1, p.2.length ≤ 8
  | 0, _, _ => fun x hx => by simp [clocksR] at hx
  | m + 1, lo, s => fun p hp => by
    unfold clocksR at hp
    rcases List.mem_cons.1 hp with rfl | hp
    · exact (setR_at B 0 0 _).2.2
    · exact clocksR_8 B m _ _ p hp
theorem writesR_8 (B : List Nat) : ∀ (m an ac : Nat) (s : Ps), ∀ p ∈ (writesR B m an ac s).1, p.xs.length ≤ 8 ∧ p.vn ≤ 64
  | 0, _, _, _ => fun x hx => by simp [writesR] at hx
  | m + 1, an, ac, s => fun p hp => by
    unfold writesR at hp
    rcases List.mem_cons.1 hp with rfl | hp
    · exact ⟨writeR_xs B an ac s, (writeR_at B an ac s).2.2.2.2.1⟩
    · exact writesR_8 B m _ _ _ p hp
theorem csT_fit {B : List Nat} (h8 : ∀ b ∈ B, b < 256) : (∀ j, j < (csT B).length → (∀ x ∈ (gC (csT B) j).2, x.t < 2 ^ 64) ∧ (gC (csT B) j).2.length ≤ 2000000) ∧ (csT B).length ≤ 16 := by
  unfold csT
  split
  · refine ⟨fun j hj => ?_, by rw [csOf_len]; exact (headR_at B ⟨0, false⟩).2.2.2.1⟩
    have hm := gC_mem hj
    generalize gC (csOf B) j = z at hm
    unfold csOf at hm
    obtain ⟨p, hp, rfl⟩ := List.mem_map.1 hm
    have h1 := clocksR_mem h8 _ _ _ p hp
    have h2 := clocksR_8 B _ _ _ p hp
    exact ⟨h1, by show p.2.length ≤ _; omega⟩
  · exact ⟨fun j hj => by simp at hj, by simp⟩
theorem keyOf_size {B : List Nat} (h8 : ∀ b ∈ B, b < 256) : (keyOf B).size ≤ 16 := by
  unfold keyOf
  rw [strB_size (fun b hb => h8 b (List.mem_of_mem_drop (List.mem_of_mem_take hb))), List.length_take]
  have := (headR_at B ⟨0, false⟩).2.2.2.2.2.1
  omega
theorem rsT_fit {B : List Nat} (h8 : ∀ b ∈ B, b < 256) : (∀ j, j < (rsT B).length → (((∀ x ∈ (gR (rsT B) j).xs, x.t < 2 ^ 64) ∧ (gR (rsT B) j).xs.length ≤ 2000000) ∧ (∀ b ∈ (gR (rsT B) j).vs, b < 256) ∧ (gR (rsT B) j).vs.length ≤ 2000000) ∧ (gR (rsT B) j).k.size ≤ 2000000) ∧ (rsT B).length ≤ 16 := by
  unfold rsT
  split
  · exact ⟨fun j hj => by simp at hj, by simp⟩
  · refine ⟨fun j hj => ?_, by rw [rsOf_len]; exact (headR_at B ⟨0, false⟩).2.2.2.1⟩
    have hm := gR_mem hj
    generalize gR (rsOf B) j = z at hm
    unfold rsOf at hm
    obtain ⟨p, hp, rfl⟩ := List.mem_map.1 hm
    have h1 := (writesR_mem h8 _ _ _ _ p hp).2
    have h2 := writesR_8 B _ _ _ _ p hp
    refine ⟨⟨⟨h1, by show p.xs.length ≤ _; omega⟩, fun b hb => h8 b (List.mem_of_mem_drop (List.mem_of_mem_take hb)), ?_⟩, by have := keyOf_size h8; show (keyOf B).size ≤ _; omega⟩
    show ((B.drop p.vb).take p.vn).length ≤ _
    rw [List.length_take]
    omega
/-- what told answers of a good page, to be read -/
structure TpR (w : World) (B : List Nat) (r : Ending) (w' : World) : Prop where
  a : Apart [] w w'
  ex : ∃ (c : Ct) (ks : List Ck) (es : List E), r = .returned (.tuple #[.agg c.cs, .bool true]) ∧ c.kd = ((headR B ⟨0, false⟩).1.k : Nat) ∧ c.gn = ((headR B ⟨0, false⟩).1.g : Nat) ∧ c.ow = ((headR B ⟨0, false⟩).1.o : Nat) ∧ RCt w' c ks (csT B) es (rsT B)
theorem ToP.rc {w : World} {B : List Nat} {r : Ending} {w' : World} (h : ToP w B r w') (h8 : ∀ b ∈ B, b < 256) : TpR w B r w' := by
  obtain ⟨c, ks, es, e0, e1, e2, e3, ⟨n1, c1⟩, n2, c2⟩ := h.ex
  obtain ⟨f1, l1⟩ := csT_fit h8
  obtain ⟨f2, l2⟩ := rsT_fit h8
  have r1 := c1.rcs n1 f1 (by omega)
  have r2 := c2.rws n2 (fun j hj => (f2 j hj).1) (by omega)
  exact ⟨h.a, c, ks, es, e0, e1, e2, e3, r1, fun j hj => (f1 j (by rw [r1.cl]; exact hj)).2, r2, fun j hj => (f2 j (by rw [r2.rl]; exact hj)).2⟩
theorem toldR_ok {w : World} {s : Sl} {B : List Nat} {V : Nat} (h : Pb w s B) (hn : s.n = 2048) (hv : Vw w V s) (hg : (endR B).bad = false) : Calls Try.prog 27 #[.pointer (some ⟨V, 0, none⟩)] w fun r w' => TpR w B r w' :=
  (told_ok h hn hv hg).mono (fun r w' hh => hh.rc h.b8)
theorem plain_ok (w : World) (kd gn ow : Int) (s t : Sl) (ks : List Ck) (cs : List (Int × List S)) (es : List E) (rs : List Wr) (h1 : RCs w s ks cs) (h2 : RWs w t es rs) : Calls Try.prog 33 #[.agg #[.int .i64 kd, .int .i64 gn, .int .i64 ow, .slice s.p s.n s.c, .slice t.p t.n t.c]] w fun r w' => PlP w kd gn ow cs rs r w' := by
  by_cases k1 : kd = 1
  · subst k1
    exact plain_1 w gn ow s t ks cs es rs h1
  · by_cases k2 : kd = 2
    · subst k2
      exact plain_2 w gn ow s t cs es rs h2
    · exact plain_3 w kd gn ow k1 k2 s t cs es rs h2
/-- what is told of a built page is the content made plain -/
theorem back_lists {B : List Nat} {kd gn ow : Int} {cs : List (Int × List S)} {rs : List Wr} (h : Bk B kd gn ow cs rs) : csT B = (if kd = 1 then cs else []) ∧ rsT B = (if kd = 1 then [] else if kd = 2 then rs else [gR rs 0]) := by
  have hk := h.k
  unfold csT rsT
  by_cases k1 : kd = 1
  · rw [if_pos k1] at hk
    have : (headR B ⟨0, false⟩).1.k = 1 := by omega
    rw [if_pos this, if_pos k1, if_pos this, if_pos k1]
    exact ⟨h.c k1, rfl⟩
  · rw [if_neg k1] at hk
    have : (headR B ⟨0, false⟩).1.k ≠ 1 := by split at hk <;> omega
    rw [if_neg this, if_neg k1, if_neg this, if_neg k1]
    exact ⟨rfl, h.w k1⟩
end Go.Proofs.Ytllhmidpphlbhaa.ds
