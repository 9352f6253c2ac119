import Derived.Test.YtokaeiahhmaokaaDoorW22
import Derived.Test.YtokaeiahhmaokaaDoorW21
import Derived.Test.YtokaeiahhmaokaaDoorW8
import Derived.Test.YtokaeiahhmaokaaDoorW14
namespace Go.Proofs.YtokaeiahhmaokaaDoor.ds
open Go.ChangeShapes Go.WideShapes Go.ChangeAt Go.RowKit Go.Sort
set_option linter.unusedVariables false
set_option linter.unusedSimpArgs false
/-- a client, the world: plain -/
structure Cln where
  key : Nat
  ok : Bool
  told : List (Int × Int)
  tok : List S
structure Wd where
  ck : Nat → List S
  sb : Nat → Nat → List Wr
  made : List Wr
  told : List (List (Int × Int))
  cl : Nat → Cln
def nmK (k : Nat) : ByteArray := if k = 0 then ⟨#[107]⟩ else ⟨#[108]⟩
def mkK (k : Nat) (made : List Wr) : List Wr := made.filter fun r => keq r.k (nmK k)
theorem nmK_ne {j k : Nat} (hj : j < 2) (hk : k < 2) (h : nmK j = nmK k) : j = k := by
  have : ∀ j : Fin 2, ∀ k : Fin 2, nmK j.val = nmK k.val → j.val = k.val := by decide
  exact this ⟨j, hj⟩ ⟨k, hk⟩ h
theorem mem_mkK {k : Nat} {made : List Wr} {r : Wr} : r ∈ mkK k made ↔ r ∈ made ∧ r.k = nmK k := by
  unfold mkK
  rw [List.mem_filter, keq_iff]
theorem mkK_snoc (k : Nat) (made : List Wr) (u : Wr) : mkK k (made ++ [u]) = if u.k = nmK k then mkK k made ++ [u] else mkK k made := by
  unfold mkK
  rw [List.filter_append]
  by_cases h : u.k = nmK k
  · rw [if_pos h]; simp [(keq_iff _ _).2 h]
  · rw [if_neg h]
    have : keq u.k (nmK k) = false := by cases hh : keq u.k (nmK k); rfl; exact absurd ((keq_iff _ _).1 hh) h
    simp [this]
def TokS (made : List Wr) (k : Nat) (told : List (Int × Int)) (xs : List S) : Prop := Tok cvW dtW made (mkK k made) told (fun d => hasd xs d.1 d.2 = true)
def atN (v : Int) (made : List Wr) : Nat := (made.filter fun r => decide (r.n = v)).length
structure Inv (st : Wd) : Prop where
  len : st.told.length = st.made.length
  vw : ∀ r ∈ st.made, Vw r ∧ (0 ≤ r.n ∧ r.n < 4) ∧ (∃ k, k < 2 ∧ r.k = nmK k)
  cn : ∀ r ∈ st.made, r.c ≤ atN r.n st.made
  nd : st.made.Nodup
  dd : ∀ x ∈ st.made, ∀ y ∈ st.made, dtW x = dtW y → x = y
  ckok : ∀ v, v < 4 → OkL 64 (st.ck v)
  ckm : ∀ v, v < 4 → ∀ d : Int × Int, hasd (st.ck v) d.1 d.2 = true → ∃ r ∈ st.made, dtW r = d
  sib : ∀ v, v < 4 → ∀ k, k < 2 → Sib cvW belowW (mkK k st.made) (fun r => hasd (st.ck v) r.n r.c = true) (st.sb v k)
  cls : ∀ k, k < 2 → Cl cvW (mkK k st.made)
  ctx : ∀ r ∈ st.made, ∀ d : Int × Int, hasd r.xs d.1 d.2 = true → ∃ y ∈ st.made, dtW y = d
  cli : ∀ q, q < 4 → (st.cl q).ok = true → (st.cl q).key < 2 ∧ OkL 64 (st.cl q).tok ∧ TokS st.made (st.cl q).key (st.cl q).told (st.cl q).tok
  tld : ∀ i, i < st.made.length → ∀ k, k < 2 → (gR st.made i).k = nmK k → TokS st.made k (st.told.getD i []) (gR st.made i).xs
theorem Inv.bound {st : Wd} (h : Inv st) (hm : st.made.length ≤ 60) : ∀ r ∈ st.made, r.c ≤ 64 := fun r hr => by
  have h1 := h.cn r hr
  have h2 : atN r.n st.made ≤ st.made.length := List.length_filter_le _ _
  omega
theorem Inv.ddk {st : Wd} (h : Inv st) (k : Nat) : ∀ x ∈ mkK k st.made, ∀ y ∈ mkK k st.made, dtW x = dtW y → x = y := fun x hx y hy e => h.dd x (mem_mkK.1 hx).1 y (mem_mkK.1 hy).1 e
theorem Inv.od {st : Wd} (h : Inv st) (k : Nat) : Od belowW (mkK k st.made) := od_W (h.ddk k)
def upd {α : Type} (f : Nat → α) (i : Nat) (a : α) (j : Nat) : α := if j = i then a else f j
theorem upd_eq {α : Type} (f : Nat → α) (i : Nat) (a : α) : upd f i a i = a := if_pos rfl
theorem upd_ne {α : Type} (f : Nat → α) {i j : Nat} (a : α) (h : j ≠ i) : upd f i a j = f j := if_neg h
/-- a node takes a write -/
noncomputable def takeW (st : Wd) (v k : Nat) (r : Wr) : Wd := { st with ck := upd st.ck v (addl (st.ck v) r.n r.c), sb := upd st.sb v (upd (st.sb v) k (mergeW (st.sb v k) r)) }
theorem Inv.adc {st : Wd} (h : Inv st) {v : Nat} (hv : v < 4) {r : Wr} (hr : r ∈ st.made) (hm : st.made.length ≤ 60) : AdC 64 (st.ck v) r.n r.c := by
  have hd := (h.vw r hr).1.dt
  refine ⟨by omega, hd, h.ckok v hv, ?_⟩
  have h1 := ((h.ckok v hv).wf (by omega) (by omega) r.n).b0
  have h2 := h.bound hm r hr
  omega
theorem Inv.take {st : Wd} (h : Inv st) {v k : Nat} (hv : v < 4) (hk : k < 2) {r : Wr} (hr : r ∈ st.made) (hrk : r.k = nmK k) (hn : hasd (st.ck v) r.n r.c = false) (hm : st.made.length ≤ 60) : Inv (takeW st v k r) := by
  have had := h.adc hv hr hm
  have hck : ∀ u, u < 4 → (takeW st v k r).ck u = if u = v then addl (st.ck v) r.n r.c else st.ck u := fun u _ => rfl
  refine { h with ckok := fun u hu => ?_, ckm := fun u hu d hd => ?_, sib := fun u hu j hj => ?_ }
  · show OkL 64 (upd st.ck v _ u)
    by_cases e : u = v
    · subst e; rw [upd_eq]; exact addl_ok had.2.2.1 had.1.1 had.1.2 _ _ had.2.1.2 had.2.2.2
    · rw [upd_ne _ _ e]; exact h.ckok u hu
  · have hd' : hasd (upd st.ck v (addl (st.ck v) r.n r.c) u) d.1 d.2 = true := hd
    by_cases e : u = v
    · subst e
      rw [upd_eq, hasd_addl had] at hd'
      rcases hd' with h1 | ⟨h1, h2⟩
      · exact h.ckm u hu d h1
      · exact ⟨r, hr, by unfold dtW; rw [← h1, ← h2]⟩
    · rw [upd_ne _ _ e] at hd'; exact h.ckm u hu d hd'
  · show Sib cvW belowW (mkK j st.made) (fun x => hasd (upd st.ck v (addl (st.ck v) r.n r.c) u) x.n x.c = true) (upd st.sb v (upd (st.sb v) k (mergeW (st.sb v k) r)) u j)
    by_cases e : u = v
    · subst e
      rw [upd_eq, upd_eq]
      by_cases ej : j = k
      · subst ej
        rw [upd_eq, mergeW_A]
        have hs := (h.sib u hu j hj).merge (h.cls j hj) (h.od j) (mem_mkK.2 ⟨hr, hrk⟩) (by rw [hn]; simp)
        refine hs.congr (fun x hx => ?_)
        rw [hasd_addl had]
        refine or_congr Iff.rfl ⟨fun e => by rw [e]; exact ⟨rfl, rfl⟩, fun e => h.dd x (mem_mkK.1 hx).1 r hr (by unfold dtW; rw [e.1, e.2])⟩
      · rw [upd_ne _ _ ej]
        refine (h.sib u hu j hj).congr (fun x hx => ?_)
        rw [hasd_addl had]
        constructor
        · exact .inl
        · rintro (h1 | ⟨h1, h2⟩)
          · exact h1
          · exfalso
            have e := h.dd x (mem_mkK.1 hx).1 r hr (by unfold dtW; rw [h1, h2])
            have := (mem_mkK.1 hx).2
            rw [e, hrk] at this
            exact ej (nmK_ne hj hk this.symm)
    · rw [upd_ne _ _ e, upd_ne _ _ e]; exact h.sib u hu j hj
/-- a write is made -/
def putW (st : Wd) (u : Wr) (t : List (Int × Int)) : Wd := { st with made := st.made ++ [u], told := st.told ++ [t] }
theorem atN_snoc (v : Int) (made : List Wr) (u : Wr) : atN v (made ++ [u]) = atN v made + (if u.n = v then 1 else 0) := by
  unfold atN
  rw [List.filter_append, List.length_append]
  by_cases h : u.n = v
  · simp [h]
  · simp [h]
theorem Inv.put {st : Wd} (h : Inv st) (u : Wr) (t : List (Int × Int)) {k : Nat} (hk : k < 2) (huk : u.k = nmK k) (hv : Vw u) (hn : 0 ≤ u.n ∧ u.n < 4) (hc : u.c = atN u.n st.made + 1) (ht : TokS st.made k t u.xs) : Inv (putW st u t) := by
  have hfr : ∀ x ∈ st.made, dtW x ≠ dtW u := fun x hx e => by
    have h1 := h.cn x hx
    rw [dtW_iff] at e
    rw [e.1] at h1
    omega
  have hnk : ∀ v, v < 4 → hasd (st.ck v) u.n u.c = true → False := fun v hv' hh => by
    obtain ⟨r, hr, e⟩ := h.ckm v hv' (u.n, u.c) hh
    exact hfr r hr e
  have hcu : ∀ x ∈ st.made, cvW x u = false := fun x hx => by
    cases hh : cvW x u
    · rfl
    · unfold cvW at hh
      rw [Bool.and_eq_true] at hh
      obtain ⟨y, hy, e⟩ := h.ctx x hx (u.n, u.c) hh.2
      exact absurd e (hfr y hy)
  have huu : hasd u.xs u.n u.c = true → False := fun hh => by
    obtain ⟨y, hy, e⟩ := ht.mk1 (u.n, u.c) hh
    exact hfr y hy e
  have hcuu : cvW u u = false := by
    cases hh : cvW u u
    · rfl
    · unfold cvW at hh
      rw [Bool.and_eq_true] at hh
      exact (huu hh.2).elim
  have hmore : ∀ j, j < 2 → ∀ told xs, TokS st.made j told xs → TokS (st.made ++ [u]) j told xs := fun j hj told xs hh => by
    unfold TokS
    rw [mkK_snoc]
    by_cases e : u.k = nmK j
    · rw [if_pos e]
      exact Tok.more hh hfr (fun x hx => (mem_mkK.1 hx).1) (fun x hx => hcu x (mem_mkK.1 hx).1)
    · rw [if_neg e]
      exact Tok.other hh u
  have hlen := h.len
  refine ⟨?_, fun r hr => ?_, fun r hr => ?_, ?_, fun x hx y hy e => ?_, h.ckok, fun v hv' d hd => ?_, fun v hv' j hj => ?_, fun j hj => ?_, fun r hr d hd => ?_, fun q hq hok => ?_, fun i hi j hj hkey => ?_⟩
  · show (st.told ++ [t]).length = (st.made ++ [u]).length
    simp [hlen]
  · rcases List.mem_append.1 (show r ∈ st.made ++ [u] from hr) with hr | hr
    · exact h.vw r hr
    · simp at hr; subst hr; exact ⟨hv, hn, k, hk, huk⟩
  · show r.c ≤ atN r.n (st.made ++ [u])
    rw [atN_snoc]
    rcases List.mem_append.1 (show r ∈ st.made ++ [u] from hr) with hr | hr
    · have := h.cn r hr; omega
    · simp at hr; subst hr; rw [if_pos rfl]; omega
  · show (st.made ++ [u]).Nodup
    rw [List.nodup_append]
    refine ⟨h.nd, by simp, fun a ha b hb => ?_⟩
    simp at hb
    subst hb
    intro e
    subst e
    exact hfr a ha rfl
  · rcases List.mem_append.1 (show x ∈ st.made ++ [u] from hx) with hx1 | hx1
    · rcases List.mem_append.1 (show y ∈ st.made ++ [u] from hy) with hy1 | hy1
      · exact h.dd x hx1 y hy1 e
      · simp at hy1; rw [hy1] at e; exact absurd e (hfr x hx1)
    · simp at hx1
      rcases List.mem_append.1 (show y ∈ st.made ++ [u] from hy) with hy1 | hy1
      · rw [hx1] at e; exact absurd e.symm (hfr y hy1)
      · simp at hy1; rw [hx1, hy1]
  · obtain ⟨r, hr, e⟩ := h.ckm v hv' d hd
    exact ⟨r, List.mem_append_left _ hr, e⟩
  · show Sib cvW belowW (mkK j (st.made ++ [u])) _ _
    rw [mkK_snoc]
    split
    · exact (h.sib v hv' j hj).more (fun hh => hnk v hv' hh)
    · exact h.sib v hv' j hj
  · show Cl cvW (mkK j (st.made ++ [u]))
    rw [mkK_snoc]
    split
    · rename_i e
      have ej : j = k := nmK_ne hj hk (by rw [← e, huk])
      subst ej
      refine Cl.more (h.cls j hj) ht (fun x hx => hcu x (mem_mkK.1 hx).1) hcuu (fun y hy => ?_)
      unfold cvW
      rw [Bool.and_eq_true, keq_iff, huk, (mem_mkK.1 hy).2]
      exact ⟨fun hh => hh.2, fun hh => ⟨rfl, hh⟩⟩
    · exact h.cls j hj
  · rcases List.mem_append.1 (show r ∈ st.made ++ [u] from hr) with hr | hr
    · obtain ⟨y, hy, e⟩ := h.ctx r hr d hd
      exact ⟨y, List.mem_append_left _ hy, e⟩
    · simp at hr
      subst hr
      obtain ⟨y, hy, e⟩ := ht.mk1 d hd
      exact ⟨y, List.mem_append_left _ hy, e⟩
  · obtain ⟨h1, h2, h3⟩ := h.cli q hq hok
    exact ⟨h1, h2, hmore _ h1 _ _ h3⟩
  · have hi' : i < st.made.length + 1 := by
      have : i < (st.made ++ [u]).length := hi
      simpa using this
    show TokS (st.made ++ [u]) j ((st.told ++ [t]).getD i []) (gR (st.made ++ [u]) i).xs
    have hkey' : (gR (st.made ++ [u]) i).k = nmK j := hkey
    by_cases e : i = st.made.length
    · subst e
      have e1 : gR (st.made ++ [u]) st.made.length = u := by unfold gR; simp [List.getD_eq_getElem?_getD]
      have e2 : (st.told ++ [t]).getD st.made.length [] = t := by rw [← hlen]; simp [List.getD_eq_getElem?_getD]
      rw [e1] at hkey' ⊢
      rw [e2]
      have ej : j = k := nmK_ne hj hk (by rw [← hkey', huk])
      subst ej
      exact hmore _ hj _ _ ht
    · have hlt : i < st.made.length := by omega
      have e1 : gR (st.made ++ [u]) i = gR st.made i := by unfold gR; rw [List.getD_eq_getElem?_getD, List.getD_eq_getElem?_getD, List.getElem?_append_left hlt]
      have e2 : (st.told ++ [t]).getD i [] = st.told.getD i [] := by rw [List.getD_eq_getElem?_getD, List.getD_eq_getElem?_getD, List.getElem?_append_left (by omega)]
      rw [e1] at hkey' ⊢
      rw [e2]
      exact hmore _ hj _ _ (h.tld i hlt j hj hkey')
/-- a client asks -/
def getW (st : Wd) (q k : Nat) (told : List (Int × Int)) (tok : List S) : Wd := { st with cl := upd st.cl q ⟨k, true, told, tok⟩ }
theorem Inv.get {st : Wd} (h : Inv st) {q k : Nat} (hk : k < 2) {told : List (Int × Int)} {tok : List S} (hok : OkL 64 tok) (ht : TokS st.made k told tok) : Inv (getW st q k told tok) := by
  refine { h with cli := fun p hp hok' => ?_ }
  have hok2 : (upd st.cl q ⟨k, true, told, tok⟩ p).ok = true := hok'
  show (upd st.cl q ⟨k, true, told, tok⟩ p).key < 2 ∧ _
  by_cases e : p = q
  · subst e
    refine ⟨by rw [upd_eq]; exact hk, ?_, ?_⟩
    · show OkL 64 (upd st.cl p ⟨k, true, told, tok⟩ p).tok
      rw [upd_eq]; exact hok
    · show TokS st.made (upd st.cl p ⟨k, true, told, tok⟩ p).key (upd st.cl p ⟨k, true, told, tok⟩ p).told (upd st.cl p ⟨k, true, told, tok⟩ p).tok
      rw [upd_eq]; exact ht
  · rw [upd_ne _ _ e] at hok2
    have := h.cli p hp hok2
    refine ⟨by rw [upd_ne _ _ e]; exact this.1, ?_, ?_⟩
    · show OkL 64 (upd st.cl q ⟨k, true, told, tok⟩ p).tok
      rw [upd_ne _ _ e]; exact this.2.1
    · show TokS st.made (upd st.cl q ⟨k, true, told, tok⟩ p).key (upd st.cl q ⟨k, true, told, tok⟩ p).told (upd st.cl q ⟨k, true, told, tok⟩ p).tok
      rw [upd_ne _ _ e]; exact this.2.2
/-- what the nodes of a list tell -/
def setsOf (st : Wd) (k : Nat) (vs : List Nat) : List Wr := vs.flatMap fun v => st.sb v k
def basesOf (st : Wd) (vs : List Nat) : List (List S) := vs.map fun v => bas (st.ck v)
theorem Inv.setsIn {st : Wd} (h : Inv st) {k : Nat} (hk : k < 2) {vs : List Nat} (hvs : ∀ v ∈ vs, v < 4) : ∀ x ∈ setsOf st k vs, x ∈ mkK k st.made := fun x hx => by
  unfold setsOf at hx
  rw [List.mem_flatMap] at hx
  obtain ⟨v, hv, hx⟩ := hx
  exact (((h.sib v (hvs v hv) k hk).mem x).1 hx).1
theorem hasd_bas {a : List S} (ha : OkL 64 a) {n c : Int} (h : hasd (bas a) n c = true) : hasd a n c = true := by
  have hb := bas_ok ha (by omega) (by omega)
  rw [hasd_iff (hb.mono (by omega))] at h
  rw [hasd_iff ha]
  exact ⟨h.1, dot_win (bas_win a) h.1 h.2⟩
theorem Inv.asks {st : Wd} (h : Inv st) (hm : st.made.length ≤ 60) {k : Nat} (hk : k < 2) {vs : List Nat} (hvs : ∀ v ∈ vs, v < 4) :
    tokO 64 (basesOf st vs) (setsOf st k vs) = [] ∧ OkL 64 (tokT 64 (basesOf st vs) (setsOf st k vs)) ∧ TokS st.made k ((gathW (setsOf st k vs)).map dtW) (tokT 64 (basesOf st vs) (setsOf st k vs)) := by
  have hin := h.setsIn hk hvs
  have hb : ∀ b ∈ basesOf st vs, OkL 64 b := fun b hb => by
    unfold basesOf at hb
    rw [List.mem_map] at hb
    obtain ⟨v, hv, rfl⟩ := hb
    exact (bas_ok (h.ckok v (hvs v hv)) (by omega) (by omega)).mono (by omega)
  have hr : ∀ r ∈ setsOf st k vs, Vw r ∧ r.c ≤ 64 := fun r hr => ⟨(h.vw r (mem_mkK.1 (hin r hr)).1).1, h.bound hm r (mem_mkK.1 (hin r hr)).1⟩
  have hd : ∀ x ∈ setsOf st k vs, ∀ y ∈ setsOf st k vs, dtW x = dtW y → x = y := fun x hx y hy e => h.ddk k x (hin x hx) y (hin y hy) e
  obtain ⟨gup, gmem⟩ := gathW_mem (fun x hx => (keq_iff _ _).2 (mem_mkK.1 (hin x hx)).2) hd
  refine ⟨(hasd_tok hb hr hd 0 0).2, (fits_all hb (fun r hr' => (hr r hr').1)).ok, ?_⟩
  have hU : ∀ x, x ∈ setsOf st k vs ↔ ∃ v, v ∈ vs ∧ x ∈ st.sb v k := fun x => by
    unfold setsOf
    rw [List.mem_flatMap]
  have hcov : ∀ x ∈ mkK k st.made, ∀ y ∈ mkK k st.made, cvW x y = true ↔ hasd x.xs (dtW y).1 (dtW y).2 = true := fun x hx y hy => by
    unfold cvW
    rw [Bool.and_eq_true, keq_iff, (mem_mkK.1 hx).2, (mem_mkK.1 hy).2]
    exact ⟨fun hh => hh.2, fun hh => ⟨rfl, hh⟩⟩
  refine tok_get (I := Nat) (lt := belowW) (h.cls k hk) (fun x hx => (mem_mkK.1 hx).1) (h.ddk k) (fun v => v ∈ vs) (fun v d => hasd (st.ck v) d.1 d.2 = true) (fun v hv d hh => h.ckm v (hvs v hv) d hh) (fun v => st.sb v k) (fun v hv => h.sib v (hvs v hv) k hk) (gathW (setsOf st k vs)) (fun x => ?_) (fun r d => hasd r.xs d.1 d.2 = true) (fun x hx d hh => h.ctx x (mem_mkK.1 hx).1 d hh) hcov (fun v d => hasd (bas (st.ck v)) d.1 d.2 = true) (fun v hv d hh => hasd_bas (h.ckok v (hvs v hv)) hh) _ (fun d => ?_)
  · rw [gmem, hU]
    refine and_congr_right (fun hx0 => ⟨fun hh y hy => ?_, fun hh y hy hne => ?_⟩)
    · obtain ⟨v, hv, hyv⟩ := hy
      have hyM := (((h.sib v (hvs v hv) k hk).mem y).1 hyv).1
      by_cases e : y = x
      · rw [e]; exact (h.cls k hk).ir x (e ▸ hyM)
      · have hxk : keq y.k x.k = true ∨ keq y.k x.k = false := by cases keq y.k x.k <;> simp
        unfold cvW
        rw [hh y ((hU y).2 ⟨v, hv, hyv⟩) e, Bool.and_false]
    · have h1 := hh y ((hU y).1 hy)
      cases hc : hasd y.xs x.n x.c
      · rfl
      · have := (hcov y (hin y hy) x (hin x ((hU x).2 hx0))).2 hc
        rw [h1] at this
        cases this
  · rw [(hasd_tok hb hr hd d.1 d.2).1]
    constructor
    · rintro (⟨b, hb1, hb2⟩ | ⟨r, hr1, hr2⟩)
      · unfold basesOf at hb1
        rw [List.mem_map] at hb1
        obtain ⟨v, hv, rfl⟩ := hb1
        exact ⟨v, hv, .inl hb2⟩
      · obtain ⟨v, hv, hs⟩ := (hU r).1 hr1
        exact ⟨v, hv, .inr ⟨r, hs, hr2⟩⟩
    · rintro ⟨v, hv, hb' | ⟨s, hs, hs2⟩⟩
      · exact .inl ⟨bas (st.ck v), by unfold basesOf; exact List.mem_map.2 ⟨v, hv, rfl⟩, hb'⟩
      · exact .inr ⟨s, (hU s).2 ⟨v, hv, hs⟩, hs2⟩
end Go.Proofs.YtokaeiahhmaokaaDoor.ds
namespace Go.Proofs.YtokaeiahhmaokaaDoor.ds
open Go.ChangeShapes Go.WideShapes Go.ChangeAt Go.RowKit Go.Sort
set_option linter.unusedVariables false
set_option linter.unusedSimpArgs false
theorem infoSS : (Tryd.prog.info? 26).map (fun i => (i.zero, i.size, i.bytes)) = some (some (.slice none 0 0), 1, 24) := by kernel_rfl
def bsX (B : Nat → Sl × List S) (n : Nat) : List (List S) := (List.range n).map fun i => (B i).2
theorem bsX_len (B : Nat → Sl × List S) (n : Nat) : (bsX B n).length = n := by simp [bsX]
theorem bsX_at (B : Nat → Sl × List S) (n j : Nat) (hj : j < n) : (bsX B n).getD j [] = (B j).2 := by
  unfold bsX
  rw [List.getD_eq_getElem?_getD, List.getElem?_map, List.getElem?_range hj]; rfl
theorem gS_range (n : Nat) (f : Nat → Sl) (j : Nat) (hj : j < n) : gS ((List.range n).map f) j = f j := by
  unfold gS
  rw [List.getD_eq_getElem?_getD, List.getElem?_map, List.getElem?_range hj]; rfl
end Go.Proofs.YtokaeiahhmaokaaDoor.ds
namespace Go.Proofs.YtokaeiahhmaokaaDoor.ds
open Go.ChangeShapes Go.WideShapes Go.ChangeAt Go.RowKit Go.Sort
set_option linter.unusedVariables false
set_option linter.unusedSimpArgs false
/-- a list of new writes, in new memory -/
structure FL (w wr : World) (s : Sl) (es : List E) (rs : List Wr) : Prop where
  own : OwnE w wr s es
  len : rs.length = s.n
  fr : ∀ j, j < s.n → Fresh w wr (gE es j) (gR rs j)
theorem FL.nil (w wr : World) (a : Apart [] w wr) : FL w wr ⟨none, 0, 0⟩ [] [] := ⟨OwnE.nil w wr a, rfl, fun j hj => absurd hj (by simp)⟩
theorem FL.kept {w wr wx : World} {s : Sl} {es : List E} {rs : List Wr} (h : FL w wr s es rs) (a : Apart [] wr wx) : FL w wx s es rs := ⟨h.own.kept a, h.len, fun j hj => (h.fr j hj).kept0 a⟩
/-- sets of dots in new memory, and the list of them -/
structure Nb (w wr : World) (u : Sl) (B : Nat → Sl × List S) (m : Nat) : Prop where
  nw : Nw w wr 26 1 u ((List.range m).map fun i => (B i).1.v)
  un : u.n = m
  own : ∀ i, i < m → Nw w wr 80 3 (B i).1 (flat (B i).2)
  ln : ∀ i, i < m → (B i).2.length = (B i).1.n ∧ (B i).1.n ≤ 1048576
  ok : ∀ i, i < m → OkL 64 (B i).2
theorem Nb.nil (w wr : World) (a : Apart [] w wr) (B : Nat → Sl × List S) : Nb w wr ⟨none, 0, 0⟩ B 0 :=
  ⟨⟨World.ownsRow_nil _ _ _ _, by simp [Sl.v, Value.ownBlock], a⟩, rfl, fun _ h => absurd h (by omega), fun _ h => absurd h (by omega), fun _ h => absurd h (by omega)⟩
theorem Nb.kept0 {w wr wx : World} {u : Sl} {B : Nat → Sl × List S} {m : Nat} (h : Nb w wr u B m) (a : Apart [] wr wx) : Nb w wx u B m := ⟨h.nw.kept a, h.un, fun i hi => (h.own i hi).kept a, h.ln, h.ok⟩
def updB (T : Nat → Sl × List S) (m : Nat) (d : Sl × List S) (i : Nat) : Sl × List S := if i = m then d else T i
theorem updB_lt (T : Nat → Sl × List S) (d : Sl × List S) {i m : Nat} (h : i < m) : updB T m d i = T i := if_neg (by omega)
theorem updB_eq (T : Nat → Sl × List S) (d : Sl × List S) (m : Nat) : updB T m d m = d := if_pos rfl
theorem Nb.L {w wr : World} {u : Sl} {B : Nat → Sl × List S} {m : Nat} (h : Nb w wr u B m) (i : Nat) (hi : i < m) : ds.L wr (B i).1.p (B i).1.n (B i).2 := by
  obtain ⟨h1, h2⟩ := h.ln i hi
  exact ⟨Sp.of_rd (h.own i hi).rd, h1, by omega, (h.ok i hi).fit (by omega)⟩
theorem Nb.lx {w wr : World} {u : Sl} {B : Nat → Sl × List S} {m : Nat} (h : Nb w wr u B m) : LX wr u.p m ((List.range m).map fun i => (B i).1) (bsX B m) := by
  refine ⟨?_, by simp, bsX_len B m, fun j hj => ?_⟩
  · have := h.nw.rd
    rw [List.map_map]
    exact this
  · rw [gS_range _ _ _ hj, bsX_at _ _ _ hj]; exact h.L j hj
end Go.Proofs.YtokaeiahhmaokaaDoor.ds
namespace Go.Proofs.YtokaeiahhmaokaaDoor.ds
open Go.ChangeShapes Go.WideShapes Go.ChangeAt Go.RowKit Go.Sort
set_option linter.unusedVariables false
set_option linter.unusedSimpArgs false
/-- sibs.Merge, in new memory -/
theorem merge_new (w : World) (p : Option Addr) (N cap : Nat) (es : List E) (rs : List Wr) (u : E) (ru : Wr) (lim : Int) (h : LE w p N es) (hN : N ≤ 1100000) (ok : Sl.ok ⟨p, N, cap⟩) (hr : rs.length = N) (hR : ∀ j, j < N → Reads w (gE es j) (gR rs j)) (hu : Reads w u ru) :
    Calls Tryd.prog 18 #[.slice p N cap, u.agg, .int .i64 lim] w fun r w' => ∃ (s : Sl) (fs : List E), r = .returned (.tuple #[s.v, .int .i64 (merrW rs ru lim)]) ∧ FL w w' s fs (mlistW rs ru lim) := by
  have em := map_RW h.len hr hR
  have hm := mem_reads h.len hR
  have eu := RW_eq hu
  have hu' : Reads w u (RW w u) := by rw [eu]; exact hu
  have e1 : merr (fun t => (RW w t).xs) es u lim = merrW rs ru lim := by rw [merr_W (fun t ht => (hm t ht).as) hu'.as, em, eu]
  have e2 : (mlist (fun t => (RW w t).xs) es u lim).map (RW w) = mlistW rs ru lim := by rw [mlist_W (fun t ht => (hm t ht).as) hu'.as, em, eu]
  have hlen : (mlist (fun t => (RW w t).xs) es u lim).length = (mlistW rs ru lim).length := by rw [← e2]; simp
  refine (merge_ok ins_ok w p N cap es u lim (RW w) h hN ok hm hu').mono ?_
  intro r w' post
  obtain ⟨s, fs, hr', hn, hfl, hnw, hfr⟩ := post.ex
  refine ⟨s, fs, by rw [hr', e1], ⟨⟨hnw, by rw [hfl, hn]⟩, by rw [hn, hlen], fun j hj => ?_⟩⟩
  have hj' : j < (mlist (fun t => (RW w t).xs) es u lim).length := by rw [← hn]; exact hj
  have := hfr j hj'
  rw [← e2, gR_map _ _ j hj']
  exact this
theorem FL.le {w wr : World} {s : Sl} {es : List E} {rs : List Wr} (h : FL w wr s es rs) (hn : s.n ≤ 2000000) : LE wr s.p s.n es := h.own.LE hn
theorem FL.from {w0 w wr : World} {s : Sl} {es : List E} {rs : List Wr} (h : FL w wr s es rs) (a : Apart [] w0 w) : FL w0 wr s es rs := ⟨h.own.from a, h.len, fun j hj => (h.fr j hj).from a⟩
theorem FL.reads {w wr : World} {s : Sl} {es : List E} {rs : List Wr} (h : FL w wr s es rs) : ∀ j, j < s.n → Reads wr (gE es j) (gR rs j) := fun j hj => (h.fr j hj).reads
/-- a write in a block of another kind -/
theorem FL.other {w wr wx : World} {s : Sl} {es : List E} {rs : List Wr} {b : Nat} {cur : Array Value} {t : TypeId} (h : FL w wr s es rs) (hb : wr.heap[b]? = some (.cells cur t (0, 0))) (ht : t ≠ 28 ∧ t ≠ 5 ∧ t ≠ 80) (a : Apart [b] wr wx) (aw : Apart [] w wx) : FL w wx s es rs := by
  have hX : ∀ k ∈ [b], ∀ cu, wr.heap[k]? ≠ some (.cells cu 5 (0, 0)) ∧ wr.heap[k]? ≠ some (.cells cu 80 (0, 0)) := fun k hk cu => by
    simp at hk
    subst hk
    rw [hb]
    simp
    exact ⟨fun _ e => ht.2.1 e, fun _ e => ht.2.2 e⟩
  refine ⟨⟨h.own.nw.keepT a aw (fun k hk cu hcu => ?_), h.own.len⟩, h.len, fun j hj => (h.fr j hj).kept a aw hX⟩
  simp at hk
  subst hk
  rw [hb] at hcu
  simp at hcu
  exact ht.1 hcu.2
theorem TS.other {w wr wx : World} {q : Option Addr} {n c : Nat} {T : List S} {b : Nat} {cur : Array Value} {t : TypeId} (h : TS w wr q n c T) (hb : wr.heap[b]? = some (.cells cur t (0, 0))) (ht : t ≠ 80) (a : Apart [b] wr wx) (aw : Apart [] w wx) : TS w wx q n c T :=
  { h with own := ⟨h.own.len, own_apart h.own.own a (fun k hk hm => by
      simp at hm
      subst hm
      obtain ⟨c1, e1⟩ := own_typ h.own.own hk
      rw [hb] at e1
      simp at e1
      exact ht e1.2), h.own.new, aw⟩ }
theorem Nw.other {w wr wx : World} {e size : Nat} {s : Sl} {us : List Value} {b : Nat} {cur : Array Value} {t : TypeId} (h : Nw w wr e size s us) (hb : wr.heap[b]? = some (.cells cur t (0, 0))) (ht : t ≠ e) (a : Apart [b] wr wx) (aw : Apart [] w wx) : Nw w wx e size s us :=
  h.keepT a aw (fun k hk cu hcu => by
    simp at hk
    subst hk
    rw [hb] at hcu
    simp at hcu
    exact ht hcu.2)
/-- dots in memory -/
def flatD (ds : List (Int × Int)) : List Value := ds.flatMap fun d => [.int .i64 d.1, .int .i64 d.2]
theorem flatD_length (ds : List (Int × Int)) : (flatD ds).length = ds.length * 2 := by
  induction ds with
  | nil => rfl
  | cons e l ih => simp only [flatD, List.flatMap_cons, List.length_append, List.length_cons] at *; simp only [List.length_nil]; omega
theorem flatD_append (a b : List (Int × Int)) : flatD (a ++ b) = flatD a ++ flatD b := by simp [flatD]
structure ND (w wr : World) (s : Sl) (ds : List (Int × Int)) : Prop where
  nw : Nw w wr 24 2 s (flatD ds)
  len : ds.length = s.n
theorem ND.kept {w wr wx : World} {s : Sl} {ds : List (Int × Int)} (h : ND w wr s ds) (a : Apart [] wr wx) : ND w wx s ds := ⟨h.nw.kept a, h.len⟩
theorem ND.nil (w wr : World) (a : Apart [] w wr) : ND w wr ⟨none, 0, 0⟩ [] := ⟨⟨World.ownsRow_nil _ _ _ _, by simp [Sl.v, Value.ownBlock], a⟩, rfl⟩
/-- where the world's parts lie -/
structure Gh where
  c : Nat → Sl
  s : Nat → Nat → Sl
  se : Nat → Nat → List E
  m : Sl
  me : List E
  t : Sl
  te : Nat → Sl
  ct : Nat → Sl
  cx : Nat → Sl
/-- the world's cells -/
def wcell (g : Gh) (cl : Nat → Cln) (i : Nat) : Value :=
  if i < 4 then (g.c i).v else if i < 12 then (g.s ((i - 4) / 2) ((i - 4) % 2)).v else if i = 12 then g.m.v else if i = 13 then g.t.v
  else if (i - 14) % 4 = 0 then .int .i64 ((cl ((i - 14) / 4)).key : Nat) else if (i - 14) % 4 = 1 then .bool (cl ((i - 14) / 4)).ok else if (i - 14) % 4 = 2 then (g.ct ((i - 14) / 4)).v else (g.cx ((i - 14) / 4)).v
theorem wc_clock (g : Gh) (cl : Nat → Cln) (v : Nat) (hv : v < 4) : wcell g cl v = (g.c v).v := if_pos hv
theorem wc_sib (g : Gh) (cl : Nat → Cln) (v k : Nat) (hv : v < 4) (hk : k < 2) : wcell g cl (4 + v * 2 + k) = (g.s v k).v := by
  unfold wcell
  rw [if_neg (by omega), if_pos (by omega), show (4 + v * 2 + k - 4) / 2 = v from by omega, show (4 + v * 2 + k - 4) % 2 = k from by omega]
theorem wc_made (g : Gh) (cl : Nat → Cln) : wcell g cl 12 = g.m.v := rfl
theorem wc_told (g : Gh) (cl : Nat → Cln) : wcell g cl 13 = g.t.v := rfl
theorem wc_cl (g : Gh) (cl : Nat → Cln) (q : Nat) (hq : q < 4) : wcell g cl (14 + q * 4) = .int .i64 ((cl q).key : Nat) ∧ wcell g cl (14 + q * 4 + 1) = .bool (cl q).ok ∧ wcell g cl (14 + q * 4 + 2) = (g.ct q).v ∧ wcell g cl (14 + q * 4 + 3) = (g.cx q).v := by
  refine ⟨?_, ?_, ?_, ?_⟩
  · unfold wcell
    rw [if_neg (by omega), if_neg (by omega), if_neg (by omega), if_neg (by omega), if_pos (by omega), show (14 + q * 4 - 14) / 4 = q from by omega]
  · unfold wcell
    rw [if_neg (by omega), if_neg (by omega), if_neg (by omega), if_neg (by omega), if_neg (by omega), if_pos (by omega), show (14 + q * 4 + 1 - 14) / 4 = q from by omega]
  · unfold wcell
    rw [if_neg (by omega), if_neg (by omega), if_neg (by omega), if_neg (by omega), if_neg (by omega), if_neg (by omega), if_pos (by omega), show (14 + q * 4 + 2 - 14) / 4 = q from by omega]
  · unfold wcell
    rw [if_neg (by omega), if_neg (by omega), if_neg (by omega), if_neg (by omega), if_neg (by omega), if_neg (by omega), if_neg (by omega), show (14 + q * 4 + 3 - 14) / 4 = q from by omega]
/-- the world in memory -/
structure WM (wB wr : World) (X : Nat) (g : Gh) (st : Wd) : Prop where
  ap : Apart [] wB wr
  xb : wB.heap.size ≤ X
  blk : ∃ arr : Array Value, wr.heap[X]? = some (.cells arr 48 (0, 0)) ∧ arr.size = 30 ∧ ∀ i, i < 30 → arr[i]? = some (wcell g st.cl i)
  ck : ∀ v, v < 4 → TS wB wr (g.c v).p (g.c v).n (g.c v).c (st.ck v)
  sb : ∀ v, v < 4 → ∀ k, k < 2 → FL wB wr (g.s v k) (g.se v k) (st.sb v k)
  md : FL wB wr g.m g.me st.made
  ne : ∀ v, v < 4 → ∀ k, k < 2 → ∀ b, g.m.v.ownBlock = some b → (g.s v k).v.ownBlock ≠ some b
  tl : Nw wB wr 43 1 g.t ((List.range st.told.length).map fun i => (g.te i).v)
  tn : g.t.n = st.told.length
  td : ∀ i, i < st.told.length → ND wB wr (g.te i) (st.told.getD i [])
  ct : ∀ q, q < 4 → ND wB wr (g.ct q) (st.cl q).told
  cx : ∀ q, q < 4 → TS wB wr (g.cx q).p (g.cx q).n (g.cx q).c (st.cl q).tok
theorem WM.kept {wB wr wx : World} {X : Nat} {g : Gh} {st : Wd} (h : WM wB wr X g st) (a : Apart [] wr wx) : WM wB wx X g st := by
  obtain ⟨arr, h1, h2⟩ := h.blk
  exact ⟨h.ap.trans a, h.xb, ⟨arr, (a.block X (lt_of_heap h1) (by simp)).trans h1, h2⟩, fun v hv => (h.ck v hv).kept0 a, fun v hv k hk => (h.sb v hv k hk).kept a, h.md.kept a, h.ne, h.tl.kept a, h.tn, fun i hi => (h.td i hi).kept a, fun q hq => (h.ct q hq).kept a, fun q hq => (h.cx q hq).kept0 a⟩
theorem WM.cell {wB wr : World} {X : Nat} {g : Gh} {st : Wd} (h : WM wB wr X g st) (i : Nat) (hi : i < 30) : wr.cell? ⟨X, i, none⟩ = some (wcell g st.cl i) := by
  obtain ⟨arr, h1, h2, h3⟩ := h.blk
  rw [cell_of_row _ _ _ _ _ _ h1]
  exact h3 i hi
theorem WM.frozen {wB wr : World} {X : Nat} {g : Gh} {st : Wd} (h : WM wB wr X g st) (i : Nat) : wr.frozen? ⟨X, i, none⟩ = false := by
  obtain ⟨arr, h1, _⟩ := h.blk
  exact frozen_of_row _ _ _ _ _ h1
theorem WM.blkX {wB wr : World} {X : Nat} {g : Gh} {st : Wd} (h : WM wB wr X g st) : ∃ cur, wr.heap[X]? = some (.cells cur 48 (0, 0)) := by
  obtain ⟨arr, h1, _⟩ := h.blk
  exact ⟨arr, h1⟩
theorem WM.arr {wB wr : World} {X : Nat} {g : Gh} {st : Wd} (h : WM wB wr X g st) (g' : Gh) (cl' : Nat → Cln) (j : Nat) (hj : j < 30) (u : Value) (hu : ∀ i, i < 30 → wcell g' cl' i = if i = j then u else wcell g st.cl i) : ∃ arr : Array Value, (wr.setCell ⟨X, j, none⟩ u).heap[X]? = some (.cells arr 48 (0, 0)) ∧ arr.size = 30 ∧ ∀ i, i < 30 → arr[i]? = some (wcell g' cl' i) := by
  obtain ⟨arr, h1, h2, h3⟩ := h.blk
  refine ⟨_, heap_setCell_same wr X j arr 48 u h1, by simp [h2], fun i hi => ?_⟩
  rw [hu i hi]
  by_cases e : i = j
  · subst e
    rw [if_pos rfl]
    simp [h2, hi]
  · rw [if_neg e, ← h3 i hi]
    simp [Array.getElem?_setIfInBounds, Ne.symm e]
/-- a cell of the world is written: what stays -/
structure WK (wB wr wx : World) (X : Nat) (g : Gh) (st : Wd) : Prop where
  ap : Apart [] wB wx
  ck : ∀ v, v < 4 → TS wB wx (g.c v).p (g.c v).n (g.c v).c (st.ck v)
  sb : ∀ v, v < 4 → ∀ k, k < 2 → FL wB wx (g.s v k) (g.se v k) (st.sb v k)
  md : FL wB wx g.m g.me st.made
  tl : Nw wB wx 43 1 g.t ((List.range st.told.length).map fun i => (g.te i).v)
  td : ∀ i, i < st.told.length → ND wB wx (g.te i) (st.told.getD i [])
  ct : ∀ q, q < 4 → ND wB wx (g.ct q) (st.cl q).told
  cx : ∀ q, q < 4 → TS wB wx (g.cx q).p (g.cx q).n (g.cx q).c (st.cl q).tok
  ot : ∀ {e size : Nat} {s : Sl} {us : List Value}, e ≠ 48 → Nw wB wr e size s us → Nw wB wx e size s us
  of : ∀ {s : Sl} {es : List E} {rs : List Wr}, FL wB wr s es rs → FL wB wx s es rs
  os : ∀ {q : Option Addr} {n c : Nat} {T : List S}, TS wB wr q n c T → TS wB wx q n c T
theorem WM.set {wB wr : World} {X : Nat} {g : Gh} {st : Wd} (h : WM wB wr X g st) (j : Nat) (u : Value) : WK wB wr (wr.setCell ⟨X, j, none⟩ u) X g st := by
  obtain ⟨cur, hb⟩ := h.blkX
  have a : Apart [X] wr (wr.setCell ⟨X, j, none⟩ u) := (Apart.refl _ _).setCell (.inl (by simp)) u
  have aw : Apart [] wB (wr.setCell ⟨X, j, none⟩ u) := h.ap.setCell (.inr h.xb) u
  exact ⟨aw, fun v hv => (h.ck v hv).other hb (by decide) a aw, fun v hv k hk => (h.sb v hv k hk).other hb (by decide) a aw, h.md.other hb (by decide) a aw, h.tl.other hb (by decide) a aw, fun i hi => ⟨(h.td i hi).nw.other hb (by decide) a aw, (h.td i hi).len⟩, fun q hq => ⟨(h.ct q hq).nw.other hb (by decide) a aw, (h.ct q hq).len⟩, fun q hq => (h.cx q hq).other hb (by decide) a aw, fun he hn => hn.other hb (Ne.symm he) a aw, fun hf => hf.other hb (by decide) a aw, fun ht => ht.other hb (by decide) a aw⟩
/-- a node's siblings are set -/
theorem WM.setSib {wB wr : World} {X : Nat} {g : Gh} {st : Wd} (h : WM wB wr X g st) {v k : Nat} (hv : v < 4) (hk : k < 2) {s : Sl} {es : List E} {rs : List Wr} (hf : FL wB wr s es rs) (hne : ∀ b, g.m.v.ownBlock = some b → s.v.ownBlock ≠ some b) :
    WM wB (wr.setCell ⟨X, 4 + v * 2 + k, none⟩ s.v) X { g with s := upd g.s v (upd (g.s v) k s), se := upd g.se v (upd (g.se v) k es) } { st with sb := upd st.sb v (upd (st.sb v) k rs) } := by
  have K := h.set (4 + v * 2 + k) s.v
  refine ⟨K.ap, h.xb, h.arr _ _ _ (by omega) _ (fun i hi => ?_), K.ck, fun v' hv' k' hk' => ?_, K.md, fun v' hv' k' hk' b hb => ?_, K.tl, h.tn, K.td, K.ct, K.cx⟩
  · by_cases e : i = 4 + v * 2 + k
    · rw [if_pos e, e, wc_sib _ _ v k hv hk]
      show (upd g.s v (upd (g.s v) k s) v k).v = s.v
      rw [upd_eq, upd_eq]
    · rw [if_neg e]
      by_cases h12 : 4 ≤ i ∧ i < 12
      · obtain ⟨a, b, ha, hb, rfl⟩ : ∃ a b, a < 4 ∧ b < 2 ∧ i = 4 + a * 2 + b := ⟨(i - 4) / 2, (i - 4) % 2, by omega, by omega, by omega⟩
        rw [wc_sib _ _ a b ha hb, wc_sib _ _ a b ha hb]
        show (upd g.s v (upd (g.s v) k s) a b).v = _
        by_cases e1 : a = v
        · subst e1
          rw [upd_eq, upd_ne _ _ (by omega)]
        · rw [upd_ne _ _ e1]
      · unfold wcell
        by_cases h4 : i < 4
        · simp only [if_pos h4]
        · have h12' : ¬ i < 12 := by omega
          simp only [if_neg h4, if_neg h12']
  · show FL wB _ (upd g.s v (upd (g.s v) k s) v' k') (upd g.se v (upd (g.se v) k es) v' k') (upd st.sb v (upd (st.sb v) k rs) v' k')
    by_cases e1 : v' = v
    · subst e1
      rw [upd_eq, upd_eq, upd_eq]
      by_cases e2 : k' = k
      · subst e2; rw [upd_eq, upd_eq, upd_eq]; exact K.of hf
      · rw [upd_ne _ _ e2, upd_ne _ _ e2, upd_ne _ _ e2]; exact K.sb v' hv' k' hk'
    · rw [upd_ne _ _ e1, upd_ne _ _ e1, upd_ne _ _ e1]; exact K.sb v' hv' k' hk'
  · show (upd g.s v (upd (g.s v) k s) v' k').v.ownBlock ≠ some b
    by_cases e1 : v' = v
    · subst e1
      rw [upd_eq]
      by_cases e2 : k' = k
      · subst e2; rw [upd_eq]; exact hne b hb
      · rw [upd_ne _ _ e2]; exact h.ne v' hv' k' hk' b hb
    · rw [upd_ne _ _ e1]; exact h.ne v' hv' k' hk' b hb
/-- a node's clock is set -/
theorem WM.setClock {wB wr : World} {X : Nat} {g : Gh} {st : Wd} (h : WM wB wr X g st) {v : Nat} (hv : v < 4) {s : Sl} {T : List S} (hf : TS wB wr s.p s.n s.c T) :
    WM wB (wr.setCell ⟨X, v, none⟩ s.v) X { g with c := upd g.c v s } { st with ck := upd st.ck v T } := by
  have K := h.set v s.v
  refine ⟨K.ap, h.xb, h.arr _ _ _ (by omega) _ (fun i hi => ?_), fun v' hv' => ?_, K.sb, K.md, h.ne, K.tl, h.tn, K.td, K.ct, K.cx⟩
  · by_cases e : i = v
    · rw [if_pos e, e, wc_clock _ _ v hv]
      show (upd g.c v s v).v = s.v
      rw [upd_eq]
    · rw [if_neg e]
      by_cases h4 : i < 4
      · rw [wc_clock _ _ i h4, wc_clock _ _ i h4]
        show (upd g.c v s i).v = _
        rw [upd_ne _ _ e]
      · unfold wcell
        simp only [if_neg h4]
  · show TS wB _ (upd g.c v s v').p (upd g.c v s v').n (upd g.c v s v').c (upd st.ck v T v')
    by_cases e : v' = v
    · subst e; rw [upd_eq, upd_eq]; exact K.os hf
    · rw [upd_ne _ _ e, upd_ne _ _ e]; exact K.ck v' hv'
end Go.Proofs.YtokaeiahhmaokaaDoor.ds
