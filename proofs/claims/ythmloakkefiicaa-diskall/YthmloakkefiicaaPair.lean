import Derived.Test.YthmloakkefiicaaSpl
namespace Go.Proofs.Ythmloakkefiicaa.dk
open Go.ChangeShapes Go.WideShapes Go.ChangeAt Go.RowKit
set_option linter.unusedVariables false
set_option linter.unusedSimpArgs false
/-- blocks that are as they were -/
structure Fr (K : Nat → Prop) (w w' : World) : Prop where
  os : w'.os = w.os
  tape : w'.tape = w.tape
  output : w'.output = w.output
  size : w.heap.size ≤ w'.heap.size
  block : ∀ k, k < w.heap.size → K k → w'.heap[k]? = w.heap[k]?
theorem Fr.refl (K : Nat → Prop) (w : World) : Fr K w w := ⟨rfl, rfl, rfl, Nat.le_refl _, fun _ _ _ => rfl⟩
theorem Fr.of {K : Nat → Prop} {X : List Nat} {w w' : World} (a : Apart X w w') (h : ∀ k ∈ X, k < w.heap.size → ¬ K k) : Fr K w w' :=
  ⟨a.os, a.tape, a.output, a.size, fun k hk hK => a.block k hk (fun hm => h k hm hk hK)⟩
theorem Fr.trans {K L : Nat → Prop} {a b c : World} (h : Fr K a b) (k : Fr L b c) (hk : ∀ i, i < a.heap.size → K i → L i) : Fr K a c :=
  ⟨k.os.trans h.os, k.tape.trans h.tape, k.output.trans h.output, Nat.le_trans h.size k.size, fun i hi hK => (k.block i (Nat.lt_of_lt_of_le hi h.size) (hk i hi hK)).trans (h.block i hi hK)⟩
theorem Fr.mono {K L : Nat → Prop} {a b : World} (h : Fr K a b) (hk : ∀ i, i < a.heap.size → L i → K i) : Fr L a b :=
  ⟨h.os, h.tape, h.output, h.size, fun i hi hL => h.block i hi (hk i hi hL)⟩
theorem Fr.apart {K : Nat → Prop} {w w' : World} (h : Fr K w w') (hk : ∀ k, k < w.heap.size → K k) : Apart [] w w' := ⟨h.os, h.tape, h.output, h.size, fun k hl _ => h.block k hl (hk k hl)⟩
theorem Apart.fr {w w' : World} {K : Nat → Prop} (h : Apart [] w w') : Fr K w w' := ⟨h.os, h.tape, h.output, h.size, fun k hl _ => h.block k hl (by simp)⟩
/-! what hangs on its blocks alone -/
theorem DiskAt.same {w w' : World} {D S : Nat} {d : Dk} (h : DiskAt w D S d) (hD : w'.heap[D]? = w.heap[D]?) (hS : w'.heap[S]? = w.heap[S]?) : DiskAt w' D S d := { h with hd := hD.trans h.hd, hs := hS.trans h.hs }
theorem own_same {w w' : World} {base : Nat} {e : TypeId} {size : Nat} {v : Value} {n : Nat} {xs : List Value} (h : w.ownsRow base e size v n xs) (hx : ∀ k, v.ownBlock = some k → w'.heap[k]? = w.heap[k]?) : w'.ownsRow base e size v n xs := by
  obtain ⟨hl, ⟨hv, hz⟩ | ⟨g, cap, cur, rfl, hb, hr, hrest⟩⟩ := h
  · exact ⟨hl, .inl ⟨hv, hz⟩⟩
  · exact ⟨hl, .inr ⟨g, cap, cur, rfl, hb, (hx g rfl).trans hr, hrest⟩⟩
def RefBlk (R : Nat) (r : Rf) (k : Nat) : Prop := k = R ∨ r.fv.ownBlock = some k ∨ r.lv.ownBlock = some k ∨ ∃ x ∈ r.log, x.v.ownBlock = some k
theorem RefAt.same {w w' : World} {R : Nat} {r : Rf} (h : RefAt w R r) (hx : ∀ k, RefBlk R r k → w'.heap[k]? = w.heap[k]?) : RefAt w' R r :=
  ⟨(hx R (.inl rfl)).trans h.hr, own_same h.hf (fun k hk => hx k (.inr (.inl hk))), own_same h.own (fun k hk => hx k (.inr (.inr (.inl hk)))), fun x hm => ⟨own_same (h.each x hm).1 (fun k hk => hx k (.inr (.inr (.inr ⟨x, hm, hk⟩)))), (h.each x hm).2⟩, h.hn⟩
theorem own_lt {w : World} {base : Nat} {e : TypeId} {size : Nat} {v : Value} {n : Nat} {xs : List Value} (h : w.ownsRow base e size v n xs) {k : Nat} (hk : v.ownBlock = some k) : k < w.heap.size := by
  obtain ⟨cur, e⟩ := own_typ h hk; exact lt_of_heap e
theorem RefAt.lt {w : World} {R : Nat} {r : Rf} (h : RefAt w R r) {k : Nat} (hk : RefBlk R r k) : k < w.heap.size := by
  rcases hk with rfl | hk | hk | ⟨x, hm, hk⟩
  · exact lt_of_heap h.hr
  · exact own_lt h.hf hk
  · exact own_lt h.own hk
  · exact own_lt (h.each x hm).1 hk
theorem SlAt.same {w w' : World} {e : TypeId} {v : Value} {xs : List Value} {G : Option Nat} (h : SlAt w e v xs G) (hx : ∀ g, G = some g → w'.heap[g]? = w.heap[g]?) : SlAt w' e v xs G := by
  cases G with
  | none => exact h
  | some g =>
    obtain ⟨off, cap, cur, hv, hr, hrest⟩ := h
    exact ⟨off, cap, cur, hv, (hx g rfl).trans hr, hrest⟩
theorem SlAt.lt {w : World} {e : TypeId} {v : Value} {xs : List Value} {G : Option Nat} (h : SlAt w e v xs G) {g : Nat} (hg : G = some g) : g < w.heap.size := by
  subst hg; obtain ⟨cur, e⟩ := h.typ; exact lt_of_heap e
theorem Lent.same {w w' : World} {g n c : Nat} {bs : List Int} (h : Lent w g n c bs) (hx : w'.heap[g]? = w.heap[g]?) : Lent w' g n c bs := by
  obtain ⟨cur, hr, hc⟩ := h.row
  exact ⟨⟨cur, hx.trans hr, hc⟩, fun j hj => (World.cell?_of_block (w := w) hx).trans (h.cells j hj), h.len, h.le⟩
theorem LentI.same {w w' : World} {g n c : Nat} {bs : List Int} (h : LentI w g n c bs) (hx : w'.heap[g]? = w.heap[g]?) : LentI w' g n c bs := by
  obtain ⟨cur, hr, hc⟩ := h.row
  exact ⟨⟨cur, hx.trans hr, hc⟩, fun j hj => (World.cell?_of_block (w := w) hx).trans (h.cells j hj), h.len, h.le⟩
theorem Ans.same {w w' : World} {p : Option Addr} {l c : Nat} {bs : List Int} {G : Option Nat} (h : Ans w p l c bs G) (hx : ∀ g, G = some g → w'.heap[g]? = w.heap[g]?) : Ans w' p l c bs G := by
  cases G with
  | none => exact h
  | some g => exact ⟨h.1, h.2.same (hx g rfl)⟩
theorem AnsI.same {w w' : World} {p : Option Addr} {l c : Nat} {bs : List Int} {G : Option Nat} (h : AnsI w p l c bs G) (hx : ∀ g, G = some g → w'.heap[g]? = w.heap[g]?) : AnsI w' p l c bs G := by
  cases G with
  | none => exact h
  | some g => exact ⟨h.1, h.2.same (hx g rfl)⟩
theorem Ans.lt' {w : World} {p : Option Addr} {l c : Nat} {bs : List Int} {G : Option Nat} (h : Ans w p l c bs G) {g : Nat} (hg : G = some g) : g < w.heap.size := by subst hg; exact h.lt
theorem AnsI.lt' {w : World} {p : Option Addr} {l c : Nat} {bs : List Int} {G : Option Nat} (h : AnsI w p l c bs G) {g : Nat} (hg : G = some g) : g < w.heap.size := by
  subst hg; obtain ⟨cur, hr, hc⟩ := h.2.row; exact lt_of_heap hr
/-- who has what, with one block more -/
def whoP (who : Nat → Option Nat) (b : Option Nat) (t : Nat) : Nat → Option Nat := fun k => if b = some k then some t else who k
theorem whoP_old {who : Nat → Option Nat} {b : Option Nat} {t : Nat} (hb : ∀ k, b = some k → who k = none ∨ who k = some t) {k s : Nat} (h : who k = some s) : whoP who b t k = some s := by
  unfold whoP
  split
  · rename_i e
    rcases hb k e with h1 | h1 <;> rw [h1] at h
    · cases h
    · exact h
  · exact h
theorem whoP_new {who : Nat → Option Nat} {b : Option Nat} {t k : Nat} (h : b = some k) : whoP who b t k = some t := by simp [whoP, h]
theorem whoP_inv {who : Nat → Option Nat} {b : Option Nat} {t k s : Nat} (h : whoP who b t k = some s) : (b = some k ∧ s = t) ∨ who k = some s := by
  unfold whoP at h
  split at h
  · rename_i e; exact .inl ⟨e, by simpa using h.symm⟩
  · exact .inr h
/-- a pair as plain data -/
structure Pd where
  D : Nat
  S : Nat
  R : Nat
  d : Dk
  r : Rf
  v : Nat → Value
  G : Nat → Option Nat
  lp : Option Addr
  ll : Nat
  lc : Nat
  lb : List Int
  lg : Option Nat
  ab : List AB
  ai : List AI
  ms : List Int
  lf : List AB
  nu : List AI
  wo : List AI
  mark : Nat
  size : Nat
  n : Nat
def fs : List Nat := [2, 3, 4, 5, 7, 8, 9, 10]
def ety (f : Nat) : TypeId := if f = 2 ∨ f = 7 then 30 else if f = 3 ∨ f = 8 then 9 else if f = 5 then 3 else 44
def Pd.row (x : Pd) : Array Value := #[.pointer (some ⟨x.D, 0, none⟩), .pointer (some ⟨x.R, 0, none⟩), x.v 2, x.v 3, x.v 4, x.v 5, .int .i64 (x.mark : Nat), x.v 7, x.v 8, x.v 9, x.v 10, .int .i64 (x.size : Nat), .slice x.lp x.ll x.lc, .int .i64 (x.n : Nat)]
def Pd.c (x : Pd) (f : Nat) : List Value := if f = 2 then x.ab.map AB.val else if f = 3 then x.ab.map AB.str else if f = 4 then x.ai.map AI.val else if f = 5 then x.ms.map (.int .i64) else if f = 7 then x.lf.map AB.val else if f = 8 then x.lf.map AB.str else if f = 9 then x.nu.map AI.val else x.wo.map AI.val
/-- the parts: each hangs on the blocks of its tags -/
structure DiskP (w : World) (x : Pd) (who : Nat → Option Nat) : Prop where
  at' : DiskAt w x.D x.S x.d
  wD : who x.D = some 1
  wS : who x.S = some 1
structure RefP (w : World) (x : Pd) (who : Nat → Option Nat) : Prop where
  at' : RefAt w x.R x.r
  wR : ∀ k, RefBlk x.R x.r k → who k = some 2
structure SlP (w : World) (x : Pd) (who : Nat → Option Nat) (f : Nat) : Prop where
  at' : SlAt w (ety f) (x.v f) (x.c f) (x.G f)
  tg : ∀ g, x.G f = some g → who g = some (10 + f)
structure LentP (w : World) (x : Pd) (who : Nat → Option Nat) : Prop where
  at' : Ans w x.lp x.ll x.lc x.lb x.lg
  tg : ∀ g, x.lg = some g → who g = some 3
structure AbP (w : World) (a : AB) (who : Nat → Option Nat) (t : Nat) : Prop where
  at' : a.At w
  tg : ∀ g, a.G = some g → who g = some t
  le : a.l ≤ 4194304
structure AiP (w : World) (a : AI) (who : Nat → Option Nat) (t : Nat) : Prop where
  at' : a.At w
  tg : ∀ g, a.G = some g → who g = some t
  le : a.l ≤ 4194304
structure Bd (x : Pd) : Prop where
  ab4 : x.ab.length ≤ 4
  ai4 : x.ai.length ≤ 4
  ms : x.ms.length = x.ai.length
  all : ∀ (i : Nat) (a : AI), x.ai[i]? = some a → a.bs = List.replicate a.l (x.ms.getD i 0)
  lf : x.lf.length ≤ 100
  nu : x.nu.length ≤ 100
  wo : x.wo.length = x.nu.length
  same : ∀ (t : Nat) (a b : AI), x.nu[t]? = some a → x.wo[t]? = some b → b.bs = a.bs ∧ b.l = a.l
  size : x.size ≤ 4194304
  dn : 1 ≤ x.d.n
  rel : Rel x.d x.r
structure Bk (x : Pd) (K : Nat) : Prop where
  mark : x.mark ≤ K
  n : x.n ≤ K
  wr : x.d.writes ≤ K
theorem Bk.up {x : Pd} {K L : Nat} (h : Bk x K) (hl : K ≤ L) : Bk x L := ⟨Nat.le_trans h.mark hl, Nat.le_trans h.n hl, Nat.le_trans h.wr hl⟩
structure Pr (w : World) (P : Nat) (x : Pd) (who : Nat → Option Nat) : Prop where
  own : ∀ k t, who k = some t → k < w.heap.size
  wP : who P = some 0
  row : w.heap[P]? = some (.cells x.row 66 (0, 0))
  dp : DiskP w x who
  rp : RefP w x who
  sl : ∀ f, f ∈ fs → SlP w x who f
  lp : LentP w x who
  kab : ∀ a ∈ x.ab, AbP w a who 30
  kai : ∀ a ∈ x.ai, AiP w a who 31
  klf : ∀ (i : Nat) (a : AB), x.lf[i]? = some a → AbP w a who (40 + 2 * i)
  knu : ∀ (i : Nat) (a : AI), x.nu[i]? = some a → AiP w a who (41 + 2 * i)
  kwo : ∀ a ∈ x.wo, AiP w a who 32
  bd : Bd x
/-- all blocks whose tag T doesn't name are as they were, and stay whose they were -/
structure Mv (w w' : World) (who who' : Nat → Option Nat) (T : List Nat) : Prop where
  blk : ∀ k t, who k = some t → t ∉ T → w'.heap[k]? = w.heap[k]?
  up : ∀ k t, who k = some t → who' k = some t
theorem DiskP.mv {w w' : World} {x y : Pd} {who who' : Nat → Option Nat} {T : List Nat} (h : DiskP w x who) (m : Mv w w' who who' T) (hT : 1 ∉ T) (e1 : y.D = x.D) (e2 : y.S = x.S) (e3 : y.d = x.d) : DiskP w' y who' := by
  obtain ⟨h1, h2, h3⟩ := h
  refine ⟨?_, ?_, ?_⟩
  · rw [e1, e2, e3]; exact h1.same (m.blk _ _ h2 hT) (m.blk _ _ h3 hT)
  · rw [e1]; exact m.up _ _ h2
  · rw [e2]; exact m.up _ _ h3
theorem RefP.mv {w w' : World} {x y : Pd} {who who' : Nat → Option Nat} {T : List Nat} (h : RefP w x who) (m : Mv w w' who who' T) (hT : 2 ∉ T) (e1 : y.R = x.R) (e2 : y.r = x.r) : RefP w' y who' := by
  obtain ⟨h1, h2⟩ := h
  refine ⟨?_, ?_⟩
  · rw [e1, e2]; exact h1.same (fun k hk => m.blk _ _ (h2 k hk) hT)
  · rw [e1, e2]; exact fun k hk => m.up _ _ (h2 k hk)
theorem SlP.mv {w w' : World} {x y : Pd} {who who' : Nat → Option Nat} {T : List Nat} {f : Nat} (h : SlP w x who f) (m : Mv w w' who who' T) (hT : 10 + f ∉ T) (e1 : y.v f = x.v f) (e2 : y.c f = x.c f) (e3 : y.G f = x.G f) : SlP w' y who' f := by
  obtain ⟨h1, h2⟩ := h
  refine ⟨?_, ?_⟩
  · rw [e1, e2, e3]; exact h1.same (fun k hk => m.blk _ _ (h2 k hk) hT)
  · rw [e3]; exact fun k hk => m.up _ _ (h2 k hk)
theorem LentP.mv {w w' : World} {x y : Pd} {who who' : Nat → Option Nat} {T : List Nat} (h : LentP w x who) (m : Mv w w' who who' T) (hT : 3 ∉ T) (e1 : y.lp = x.lp) (e2 : y.ll = x.ll) (e3 : y.lc = x.lc) (e4 : y.lb = x.lb) (e5 : y.lg = x.lg) : LentP w' y who' := by
  obtain ⟨h1, h2⟩ := h
  refine ⟨?_, ?_⟩
  · rw [e1, e2, e3, e4, e5]; exact h1.same (fun k hk => m.blk _ _ (h2 k hk) hT)
  · rw [e5]; exact fun k hk => m.up _ _ (h2 k hk)
theorem AbP.mv {w w' : World} {a : AB} {who who' : Nat → Option Nat} {t : Nat} {T : List Nat} (h : AbP w a who t) (m : Mv w w' who who' T) (hT : t ∉ T) : AbP w' a who' t :=
  ⟨Ans.same h.at' (fun k hk => m.blk _ _ (h.tg k hk) hT), fun k hk => m.up _ _ (h.tg k hk), h.le⟩
theorem AiP.mv {w w' : World} {a : AI} {who who' : Nat → Option Nat} {t : Nat} {T : List Nat} (h : AiP w a who t) (m : Mv w w' who who' T) (hT : t ∉ T) : AiP w' a who' t :=
  ⟨AnsI.same h.at' (fun k hk => m.blk _ _ (h.tg k hk) hT), fun k hk => m.up _ _ (h.tg k hk), h.le⟩
theorem Pr.lt {w : World} {P : Nat} {x : Pd} {who : Nat → Option Nat} (h : Pr w P x who) : P < w.heap.size := h.own P 0 h.wP
theorem Pr.prow {w : World} {P : Nat} {x : Pd} {who : Nat → Option Nat} (h : Pr w P x who) : PRow w P x.row := ⟨h.row, rfl⟩
/-- outside of the pair's blocks something went on -/
theorem Pr.kept {w w' : World} {P : Nat} {x : Pd} {who : Nat → Option Nat} (h : Pr w P x who) (f : Fr (fun k => who k ≠ none) w w') : Pr w' P x who := by
  have m : Mv w w' who who [] := ⟨fun k t hk _ => f.block k (h.own k t hk) (by rw [hk]; simp), fun k t hk => hk⟩
  exact ⟨fun k t hk => Nat.lt_of_lt_of_le (h.own k t hk) f.size, h.wP, (m.blk _ _ h.wP (by simp)).trans h.row, h.dp.mv m (by simp) rfl rfl rfl, h.rp.mv m (by simp) rfl rfl, fun f hf => (h.sl f hf).mv m (by simp) rfl rfl rfl, h.lp.mv m (by simp) rfl rfl rfl rfl rfl,
    fun a ha => (h.kab a ha).mv m (by simp), fun a ha => (h.kai a ha).mv m (by simp), fun i a ha => (h.klf i a ha).mv m (by simp), fun i a ha => (h.knu i a ha).mv m (by simp), fun a ha => (h.kwo a ha).mv m (by simp), h.bd⟩
theorem Pr.kept0 {w w' : World} {P : Nat} {x : Pd} {who : Nat → Option Nat} (h : Pr w P x who) (a : Apart [] w w') : Pr w' P x who := h.kept a.fr
/-- what a step leaves: the pair, with no blocks but its own, the answer's and new ones -/
structure St (w w' : World) (P : Nat) (who : Nat → Option Nat) (K : Nat) (b : Option Nat) : Prop where
  ex : ∃ x' who', Pr w' P x' who' ∧ Bk x' K ∧ (∀ k s, who' k = some s → who k ≠ none ∨ b = some k ∨ w.heap.size ≤ k)
  fr : Fr (fun k => who k = none ∧ b ≠ some k) w w'
theorem Mv.of {w w' : World} {who who' : Nat → Option Nat} {X T : List Nat} (a : Apart X w w') (own : ∀ k t, who k = some t → k < w.heap.size) (hX : ∀ k ∈ X, ∀ t, who k = some t → t ∈ T) (up : ∀ k t, who k = some t → who' k = some t) : Mv w w' who who' T :=
  ⟨fun k t hk hT => a.block k (own k t hk) (fun hm => hT (hX k hm t hk)), up⟩
end Go.Proofs.Ythmloakkefiicaa.dk
