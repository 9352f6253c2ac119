import Derived.Test.YthmloakkefiicaaTraces
import Derived.Test.YthmloakkefiicaaRefX
namespace Go.Proofs.Ythmloakkefiicaa.dk
open Go.ChangeShapes Go.WideShapes Go.ChangeAt Go.RowKit
set_option linter.unusedVariables false
set_option linter.unusedSimpArgs false
theorem Src.fr {w w' : World} {p : Option Addr} {l : Nat} {bs : List Int} {K : Nat → Prop} (h : Src w p l bs) (f : Fr K w w') (hK : 0 < l → ∀ g o, p = some ⟨g, o, none⟩ → K g) : Src w' p l bs :=
  ⟨h.hlen, fun h0 => by
    obtain ⟨g, o, hp, hg, hc⟩ := h.cells h0
    exact ⟨g, o, hp, Nat.lt_of_lt_of_le hg f.size, fun j hj => (World.cell?_of_block (w := w) (f.block g hg (hK h0 g o hp))).trans (hc j hj)⟩⟩
/-- what went on with the document's disk -/
structure RStep (w w' : World) (R : Nat) (r r' : Rf) : Prop where
  at' : RefAt w' R r'
  ap : Apart (R :: r.lv.ownBlock.toList) w w'
  nw : ∀ k, RefBlk R r' k → RefBlk R r k ∨ w.heap.size ≤ k
theorem rstep_same {w w' : World} {R : Nat} {r r' : Rf} (h : RefAt w' R r') (a : Apart [R] w w') (h1 : r'.fv = r.fv) (h2 : r'.lv = r.lv) (h3 : r'.log = r.log) : RStep w w' R r r' :=
  ⟨h, a.mono (by simp), fun k hk => .inl (by unfold RefBlk at hk ⊢; rw [h1, h2, h3] at hk; exact hk)⟩
theorem rstep_log {w w' : World} {R : Nat} {r r' : Rf} {v lv' : Value} {rw : Rw} (h : RefAt w' R r') (a : Apart (R :: r.lv.ownBlock.toList) w w') (hn : New2 w v r.lv lv') (h1 : r'.fv = r.fv) (h2 : r'.lv = lv') (h3 : r'.log = r.log ++ [rw]) (h4 : rw.v = v) : RStep w w' R r r' := by
  refine ⟨h, a, fun k hk => ?_⟩
  unfold RefBlk at hk
  rw [h1, h2, h3] at hk
  rcases hk with hk | hk | hk | ⟨x, hx, hk⟩
  · exact .inl (.inl hk)
  · exact .inl (.inr (.inl hk))
  · rcases hn.2 k hk with h5 | h5
    · exact .inl (.inr (.inr (.inl h5)))
    · exact .inr h5
  · rcases List.mem_append.1 hx with hx | hx
    · exact .inl (.inr (.inr (.inr ⟨x, hx, hk⟩)))
    · have : x = rw := by simpa using hx
      subst this
      rw [h4] at hk
      exact .inr (hn.1 k hk)
theorem RStep.id {w : World} {R : Nat} {r : Rf} (h : RefAt w R r) : RStep w w R r r := ⟨h, Apart.refl _ _, fun k hk => .inl hk⟩
structure DStep (w w' : World) (x : Pd) (d' : Dk) : Prop where
  at' : DiskAt w' x.D x.S d'
  ap : Apart [x.D, x.S] w w'
theorem RefP.disk {w w1 : World} {P : Nat} {x : Pd} {who : Nat → Option Nat} (h : Pr w P x who) (a : Apart [x.D, x.S] w w1) : RefAt w1 x.R x.r :=
  h.rp.at'.same (fun k hk => a.block k (h.rp.at'.lt hk) (fun hm => by
    have := h.rp.wR k hk
    simp at hm
    rcases hm with rfl | rfl
    · rw [h.dp.wD] at this; cases this
    · rw [h.dp.wS] at this; cases this))
theorem both_write {w : World} {P : Nat} {x : Pd} {who : Nat → Option Nat} (h : Pr w P x who) {K : Nat} (hK : Bk x K) (hK9 : K ≤ 900) (N : Int) (g l cc c : Nat) (p : Option Addr) (bs : List Int) (hg : g ≠ x.D) (hsrc : ∀ j, j < l → w.cell? ⟨g, j, none⟩ = some (.int .u8 (bs.getD j 0))) (hs : Src w p l bs) (hfr : 0 < l → ∀ g o, p = some ⟨g, o, none⟩ → who g = none) :
    ∃ e d', Calls Try.prog 15 #[.pointer (some ⟨x.D, 0, none⟩), .int .i64 N, .slice (some ⟨g, 0, none⟩) l cc] w (fun r w' => r = .returned (.int .i64 e) ∧ DStep w w' x d') ∧ d'.n = x.d.n ∧ d'.writes ≤ K + 1 ∧
      ∀ w1, Apart [x.D, x.S] w w1 → Calls Try.prog 47 #[.pointer (some ⟨x.R, 0, none⟩), .int .i64 N, .slice p l c] w1 (fun r w' => r = .returned (.int .i64 e) ∧ ∃ r', RStep w1 w' x.R x.r r' ∧ Rel d' r') := by
  have hd := h.dp.at'
  have hrel := h.bd.rel
  have hwr := hK.wr
  have hrn := hrel.n
  have hro := hrel.on
  have hlog : x.r.log.length ≤ 1000000 := by rw [← hrel.wr]; omega
  have same : ∀ (e : Int), (Calls Try.prog 15 #[.pointer (some ⟨x.D, 0, none⟩), .int .i64 N, .slice (some ⟨g, 0, none⟩) l cc] w (fun r w' => r = .returned (.int .i64 e) ∧ w' = w)) → (∀ w1, RefAt w1 x.R x.r → Calls Try.prog 47 #[.pointer (some ⟨x.R, 0, none⟩), .int .i64 N, .slice p l c] w1 (fun r w' => r = .returned (.int .i64 e) ∧ w' = w1)) →
    ∃ e d', Calls Try.prog 15 #[.pointer (some ⟨x.D, 0, none⟩), .int .i64 N, .slice (some ⟨g, 0, none⟩) l cc] w (fun r w' => r = .returned (.int .i64 e) ∧ DStep w w' x d') ∧ d'.n = x.d.n ∧ d'.writes ≤ K + 1 ∧
      ∀ w1, Apart [x.D, x.S] w w1 → Calls Try.prog 47 #[.pointer (some ⟨x.R, 0, none⟩), .int .i64 N, .slice p l c] w1 (fun r w' => r = .returned (.int .i64 e) ∧ ∃ r', RStep w1 w' x.R x.r r' ∧ Rel d' r') := by
    intro e h1 h2
    refine ⟨e, x.d, h1.mono ?_, rfl, by omega, fun w1 a => (h2 w1 (RefP.disk h a)).mono ?_⟩
    · rintro r w' ⟨rfl, rfl⟩; exact ⟨rfl, hd, Apart.refl _ _⟩
    · rintro r w' ⟨rfl, rfl⟩; exact ⟨rfl, x.r, RStep.id (RefP.disk h a), hrel⟩
  cases ho : x.d.on with
  | false => exact same 3 (write_off hd N _ _ _ ho) (fun w1 hr => rwrite_off hr N _ _ _ (by rw [← hro]; exact ho))
  | true =>
    have hro' : x.r.on = true := by rw [← hro]; exact ho
    by_cases hN : N < 0 ∨ (x.d.n : Int) ≤ N
    · exact same 10 (write_sector hd N _ _ _ ho hN) (fun w1 hr => rwrite_sector hr N _ _ _ hro' (by rw [← hrn]; exact hN))
    · by_cases hl : l = 512
      · subst hl
        obtain ⟨m, rfl⟩ : ∃ m : Nat, N = (m : Int) := ⟨N.toNat, by omega⟩
        have hm : m < x.d.n := by omega
        have hmr : m < x.r.n := by rw [← hrn]; exact hm
        have hbl : bs.length = 512 := hs.hlen
        have hsrc' : ∀ j, j < 512 → w.cell? ⟨g, 0 + j, none⟩ = some (.int .u8 (bs.getD j 0)) := fun j hj => by rw [Nat.zero_add]; exact hsrc j hj
        have src1 : ∀ w1, Apart [x.D, x.S] w w1 → Src w1 p 512 bs := fun w1 a => hs.fr (K := fun k => who k = none) (Fr.of a (fun k hm _ hk => by
          simp at hm
          rcases hm with rfl | rfl
          · rw [h.dp.wD] at hk; cases hk
          · rw [h.dp.wS] at hk; cases hk)) hfr
        cases ha : x.d.armed with
        | false =>
          have hle : x.r.left < 0 := by have := hrel.arm; rw [ha] at this; simp at this; omega
          refine ⟨0, _, (write_plain hd m g 0 cc bs hg hbl hsrc' ho hm (by omega) ha).mono (fun r w' q => ⟨q.1, q.2.1, q.2.2⟩), rfl, by show x.d.writes + 1 ≤ K + 1; omega, fun w1 a => (rwrite_whole (RefP.disk h a) m p c bs (src1 w1 a) hro' hmr hlog hle).mono ?_⟩
          rintro r w' ⟨rfl, v, lv', h1, h2, h3⟩
          exact ⟨rfl, _, rstep_log h1 h2 h3 rfl rfl rfl rfl, Rel.whole hd hrel m bs hbl v lv' hle⟩
        | true =>
          have haft := hrel.aft ha
          have hle0 : 0 ≤ x.r.left := by have := hrel.arm; rw [ha] at this; simpa using this.symm
          by_cases hz : x.d.after = 0
          · obtain ⟨t, ht⟩ : ∃ t : Nat, x.r.torn = (t : Int) := ⟨x.r.torn.toNat, by have := hrel.tor; omega⟩
            have ht5 : t ≤ 512 := by have := hrel.tor; omega
            refine ⟨3, _, (write_torn hd m g 0 cc t bs hg hbl hsrc' ho hm (by omega) ha hz (by rw [haft.2, ht]) ht5).mono (fun r w' q => ⟨q.1, q.2.1, q.2.2⟩), rfl, by show x.d.writes + 1 ≤ K + 1; omega, fun w1 a => (rwrite_torn (RefP.disk h a) m p c bs (src1 w1 a) hro' hmr hlog (by omega) t ht ht5).mono ?_⟩
            rintro r w' ⟨rfl, v, lv', h1, h2, h3⟩
            exact ⟨rfl, _, rstep_log h1 h2 h3 rfl rfl rfl rfl, Rel.torn hd hrel m t bs v lv'⟩
          · refine ⟨0, _, (write_armed hd m g 0 cc bs hg hbl hsrc' ho hm (by omega) ha hz).mono (fun r w' q => ⟨q.1, q.2.1, q.2.2⟩), rfl, by show x.d.writes + 1 ≤ K + 1; omega, fun w1 a => (rwrite_armed (RefP.disk h a) m p c bs (src1 w1 a) hro' hmr hlog (by omega)).mono ?_⟩
            rintro r w' ⟨rfl, v, lv', h1, h2, h3⟩
            exact ⟨rfl, _, rstep_log h1 h2 h3 rfl rfl rfl rfl, Rel.dec hd hrel m bs hbl v lv' (by omega)⟩
      · exact same 1 (write_arg hd N _ _ _ ho (by omega) (by omega) hl) (fun w1 hr => rwrite_arg hr N _ _ _ hro' (by omega) (by rw [← hrn]; omega) hl)
/-- the small acts -/
theorem both_arm {w : World} {P : Nat} {x : Pd} {who : Nat → Option Nat} (h : Pr w P x who) {K : Nat} (hK : Bk x K) (N M : Int) (hN : N ≤ 9223372036854775807) :
    ∃ d', Calls Try.prog 23 #[.pointer (some ⟨x.D, 0, none⟩), .int .i64 N, .int .i64 M] w (fun r w' => r = .returned (.tuple #[]) ∧ DStep w w' x d') ∧ d'.n = x.d.n ∧ d'.writes ≤ K ∧
      ∀ w1, Apart [x.D, x.S] w w1 → Calls Try.prog 48 #[.pointer (some ⟨x.R, 0, none⟩), .int .i64 N, .int .i64 M] w1 (fun r w' => r = .returned (.tuple #[]) ∧ ∃ r', RStep w1 w' x.R x.r r' ∧ Rel d' r') := by
  have hd := h.dp.at'
  have hrel := h.bd.rel
  have hro := hrel.on
  cases ho : x.d.on with
  | false =>
    refine ⟨x.d, (arm_off hd N M ho).mono ?_, rfl, hK.wr, fun w1 a => (rarm_off (RefP.disk h a) N M (by rw [← hro]; exact ho)).mono ?_⟩
    · rintro r w' ⟨rfl, rfl⟩; exact ⟨rfl, hd, Apart.refl _ _⟩
    · rintro r w' ⟨rfl, rfl⟩; exact ⟨rfl, x.r, RStep.id (RefP.disk h a), hrel⟩
  | true =>
    refine ⟨_, (arm_on hd N M ho).mono (fun r w' q => ⟨q.1, q.2.1, q.2.2.mono (by simp)⟩), rfl, hK.wr, fun w1 a => (rarm_on (RefP.disk h a) N M (by rw [← hro]; exact ho)).mono ?_⟩
    rintro r w' ⟨rfl, h1, h2⟩
    exact ⟨rfl, _, rstep_same h1 h2 rfl rfl rfl, Rel.armed hrel N M ho hN⟩
theorem both_off {w : World} {P : Nat} {x : Pd} {who : Nat → Option Nat} (h : Pr w P x who) {K : Nat} (hK : Bk x K) :
    ∃ d', Calls Try.prog 16 #[.pointer (some ⟨x.D, 0, none⟩)] w (fun r w' => r = .returned (.tuple #[]) ∧ DStep w w' x d') ∧ d'.n = x.d.n ∧ d'.writes ≤ K ∧
      ∀ w1, Apart [x.D, x.S] w w1 → Calls Try.prog 49 #[.pointer (some ⟨x.R, 0, none⟩)] w1 (fun r w' => r = .returned (.tuple #[]) ∧ ∃ r', RStep w1 w' x.R x.r r' ∧ Rel d' r') := by
  refine ⟨_, (off_disk h.dp.at').mono (fun r w' q => ⟨q.1, q.2.1, q.2.2.mono (by simp)⟩), rfl, hK.wr, fun w1 a => (roff_ref (RefP.disk h a)).mono ?_⟩
  rintro r w' ⟨rfl, h1, h2⟩
  exact ⟨rfl, _, rstep_same h1 h2 rfl rfl rfl, h.bd.rel.offed⟩
theorem both_on {w : World} {P : Nat} {x : Pd} {who : Nat → Option Nat} (h : Pr w P x who) {K : Nat} (hK : Bk x K) :
    ∃ d', Calls Try.prog 19 #[.pointer (some ⟨x.D, 0, none⟩)] w (fun r w' => r = .returned (.tuple #[]) ∧ DStep w w' x d') ∧ d'.n = x.d.n ∧ d'.writes ≤ K ∧
      ∀ w1, Apart [x.D, x.S] w w1 → Calls Try.prog 50 #[.pointer (some ⟨x.R, 0, none⟩)] w1 (fun r w' => r = .returned (.tuple #[]) ∧ ∃ r', RStep w1 w' x.R x.r r' ∧ Rel d' r') := by
  refine ⟨_, (on_disk h.dp.at').mono (fun r w' q => ⟨q.1, q.2.1, q.2.2.mono (by simp)⟩), rfl, hK.wr, fun w1 a => (rstart_ref (RefP.disk h a)).mono ?_⟩
  rintro r w' ⟨rfl, h1, h2⟩
  exact ⟨rfl, _, rstep_same h1 h2 rfl rfl rfl, h.bd.rel.oned⟩
/-- both went on -/
theorem Pr.bothS {w w1 w2 : World} {P : Nat} {x : Pd} {who : Nat → Option Nat} (h : Pr w P x who) {d' : Dk} {r' : Rf} (ds : DStep w w1 x d') (rs : RStep w1 w2 x.R x.r r') (hrel : Rel d' r') (hn : d'.n = x.d.n) :
    ∃ who', Pr w2 P { x with d := d', r := r' } who' ∧ (∀ k s, who' k = some s → who k ≠ none ∨ w.heap.size ≤ k) ∧ Fr (fun k => who k = none) w w2 :=
  h.both ds.at' ds.ap (by simp) rs.at' rs.ap (fun k hm => by
    rcases List.mem_cons.1 hm with rfl | hm
    · exact .inl rfl
    · exact .inr (.inr (.inl (by simpa using hm)))) rs.nw hrel hn
/-- the small acts leave a pair -/
theorem Pr.bothSt {w w1 w2 : World} {P : Nat} {x : Pd} {who : Nat → Option Nat} (h : Pr w P x who) {K : Nat} (hK : Bk x K) {d' : Dk} {r' : Rf} (ds : DStep w w1 x d') (rs : RStep w1 w2 x.R x.r r') (hrel : Rel d' r') (hn : d'.n = x.d.n) (hw : d'.writes ≤ K) : St w w2 P who (K + 2) none := by
  obtain ⟨who', h1, h2, h3⟩ := h.bothS ds rs hrel hn
  refine ⟨⟨_, who', h1, ⟨Nat.le_trans hK.mark (by omega), Nat.le_trans hK.n (by omega), Nat.le_trans hw (by omega)⟩, fun k s hk => ?_⟩, h3.mono (fun i _ hi => hi.1)⟩
  rcases h2 k s hk with h4 | h4
  · exact .inl h4
  · exact .inr (.inr h4)
end Go.Proofs.Ythmloakkefiicaa.dk
