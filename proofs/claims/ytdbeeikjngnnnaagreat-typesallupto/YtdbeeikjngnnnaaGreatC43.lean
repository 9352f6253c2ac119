import Derived.Test.YtdbeeikjngnnnaaGreatC32
import Derived.Test.YtdbeeikjngnnnaaGreatC34
import Derived.Test.YtdbeeikjngnnnaaGreatC38
import Derived.Test.YtdbeeikjngnnnaaGreatC39
import Derived.Test.YtdbeeikjngnnnaaGreatC42
namespace Go.Proofs.YtdbeeikjngnnnaaGreat.ty
open Go.ChangeShapes Go.WideShapes Go.ChangeAt Go.RowKit
set_option linter.unusedVariables false
set_option linter.unusedSimpArgs false
set_option maxRecDepth 100000
set_option maxHeartbeats 8000000
theorem doV1 (v : Vl) (a b : Int) (on : Bool) (bs : List Nat) : doV v 1 a b on bs = addR v a b := rfl
theorem doV2 (v : Vl) (a b : Int) (on : Bool) (bs : List Nat) : doV v 2 a b on bs = putR v a bs := rfl
theorem doV3 (v : Vl) (a b : Int) (on : Bool) (bs : List Nat) : doV v 3 a b on bs = takeR v bs := rfl
theorem doV4 (v : Vl) (a b : Int) (on : Bool) (bs : List Nat) : doV v 4 a b on bs = switchR v a on := rfl
theorem doV5 (v : Vl) (a b : Int) (on : Bool) (bs : List Nat) : doV v 5 a b on bs = writeR v a bs := rfl
def DoP (w : World) (O : Nat) (x : Int × Vl) (r : Ending) (w' : World) : Prop := r = .returned (.int .i64 x.1) ∧ Apart [O] w w' ∧ ∃ ts s, Dk w' O (rvO x.2 ts) s ∧ Rl x.2 ts
theorem DoP.no {w w' : World} {O : Nat} {v : Vl} {ts : List Tg} {s : Sl} (h : Dk w O (rvO v ts) s) (hr : Rl v ts) {e : Int} {x : Int × Vl} (hx : x = (e, v)) {r : Ending} (k : r = .returned (.int .i64 e) ∧ Apart [] w w') : DoP w O x r w' := by
 obtain ⟨rfl, a⟩ := k
 subst hx
 exact ⟨rfl, a.mono (by simp), ts, s, h.kept0 a, hr⟩
theorem isA_not {a : Int} (h : ¬ isA a = true) : isA a = false := by simpa using h
theorem putR_set {c : List Int} {es : List En} {i : Nat} {bs : List Nat} (ha : isA (i : Int) = true) : putR (.set c es) i bs = if isE bs.length = false then (1, .set c es) else if c.getD i 0 = 65535 then (92, .set c es) else if 64 < (setB (putC c i) (putE c es i (strB bs))).length then (71, .set c es) else (0, .set (putC c i) (putE c es i (strB bs))) := by
 unfold putR
 simp only [Int.toNat_natCast]
 rw [if_neg (by rw [ha]; simp)]
theorem switchR_flg {c g : List Int} {i : Nat} (ha : isA (i : Int) = true) : switchR (.flg c g) i true = if c.getD i 0 = 65535 then (92, .flg c g) else (0, .flg (c.set i (c.getD i 0 + 1)) (zr.set i (c.getD i 0 + 1))) := by
 unfold switchR
 simp only [Int.toNat_natCast]
 rw [if_neg (by rw [ha]; simp), if_neg (by simp)]
theorem neE {n : Nat} (he : isE n = true) : ¬ isE n = false := by rw [he]; simp
theorem rdo_ok {w : World} {O : Nat} {v : Vl} {ts : List Tg} {s : Sl} (h : Dk w O (rvO v ts) s) (hr : Rl v ts) (iv : Iv v) {sl : Sl} {bs : List Nat} (q : Bq w sl bs) (hO : ∀ P o, sl.p = some ⟨P, o, none⟩ ∧ bs ≠ [] → P ≠ O) (k : Nat) (h1 : 1 ≤ k) (h5 : k ≤ 5) (a b : Int) (on : Bool) : Calls Tryz.prog 40 #[.pointer (some ⟨O, 0, none⟩), .agg (actC k a b on sl)] w fun r w' => DoP w O (doV v k a b on bs) r w' := by
 have hk := rvO_k v ts
 obtain rfl | rfl | rfl | rfl | rfl : k = 1 ∨ k = 2 ∨ k = 3 ∨ k = 4 ∨ k = 5 := by omega
 ·rw [doV1]
  cases v using Vl.el with
  | cnt u d =>
   by_cases ha : isA a = true
   ·obtain ⟨i, rfl, hi, hx⟩ := isA_i ha
    obtain ⟨⟨hu, hd⟩, -⟩ := iv.gt
    refine (rdo_add h rfl hi rfl hu hd).mono ?_
    rintro _ w' ⟨rfl, a', s', k'⟩
    have e1 : ts = [] := hr
    have e : addR (.cnt u d) i b = ((addD u d i b).1, .cnt (addD u d i b).2.1 (addD u d i b).2.2) := by
     unfold addD addR
     simp only [hx]
     rw [if_neg (by rw [ha]; simp)]
     by_cases c1 : b > 16777215 ∨ b < -16777215
     ·rw [if_pos c1, if_pos c1]
     ·rw [if_neg c1, if_neg c1]
      by_cases c2 : u.getD i 0 + max b 0 > 16777215 ∨ d.getD i 0 - min b 0 > 16777215
      ·rw [if_pos c2, if_pos c2]
      ·rw [if_neg c2, if_neg c2]
    rw [e]
    exact ⟨rfl, a', ts, s', k', hr⟩
   ·refine (rdo_actor1 h rfl (isA_not ha)).mono fun x w' => DoP.no h hr ?_
    simp [addR, isA_not ha]
  | set c es => exact (rdo_type1 h rfl (kd := 2) (by decide)).mono fun x w' => DoP.no h hr rfl
  | flg c g => exact (rdo_type1 h rfl (kd := 3) (by decide)).mono fun x w' => DoP.no h hr rfl
  | rgs n x t => exact (rdo_type1 h rfl (kd := 4) (by decide)).mono fun x w' => DoP.no h hr rfl
 ·rw [doV2]
  cases v using Vl.el with
  | set c es =>
   by_cases ha : isA a = true
   ·obtain ⟨i, rfl, hi, hx⟩ := isA_i ha
    obtain ⟨⟨hg, hc, hs⟩, -⟩ := iv.gt
    have hci := hc.2 i
    have hsz : (strB bs).size = bs.length := strB_size bs
    have hl := hr.len
    have hle := hr.els iv.gt.1
    have hle2 : es.length ≤ 96 := hle
    have key : ∀ W : World, Dk W O (rvO (.set c es) ts) s → Calls Tryz.prog 51 #[.pointer (some ⟨O, 0, none⟩), .int .i64 (i : Int), .string (strB bs)] W fun x w' => ∃ e, x = .returned (.int .i64 e) ∧ DoP W O (putR (.set c es) i bs) x w' := by
     intro W hW
     have fin : ∀ {x : Ending} {w' : World}, DoP W O (putR (.set c es) i bs) x w' → ∃ e, x = .returned (.int .i64 e) ∧ DoP W O (putR (.set c es) i bs) x w' := fun h => ⟨_, h.1, h⟩
     by_cases he : isE bs.length = true
     ·by_cases hf : c.getD i 0 = 65535
      ·refine (rput_full hW hi (by rw [hsz]; exact he) (by show c.getD i 0 ≥ 65535; omega)).mono fun x w' hh => fin (DoP.no hW hr ?_ hh)
       rw [putR_set ha, if_neg (neE he), if_pos hf]
      ·obtain ⟨k1, k2, k3⟩ := put_gd (e := strB bs) hg hc hs iv.sz hi (by rw [hsz]; exact ((isE_iff _).1 he).1) (by rw [hsz]; exact ((isE_iff _).1 he).2) hf
       obtain ⟨n, hn⟩ : ∃ n : Nat, c.getD i 0 = (n : Int) := ⟨(c.getD i 0).toNat, by omega⟩
       have hT : Ts (takeT ts (strB bs) ++ [⟨strB bs, i, (c.getD i 0).toNat + 1⟩]) (tg (putE c es i (strB bs))) := by
        refine ((hr.1.take (strB bs)).put (by simp) hi (by omega)).congr fun x => ?_
        unfold putE
        rw [tg_put hg.so]
        by_cases hxx : x = strB bs
        ·rw [if_pos hxx, if_pos hxx]
         have : (((c.getD i 0).toNat + 1 : Nat) : Int) = c.getD i 0 + 1 := by omega
         rw [this]
        ·rw [if_neg hxx, if_neg hxx, if_neg hxx]
       have hF : ∀ (W : World) (X : Nat) (sx : Sl), Dk W X (putD (rvO (.set c es) ts) i (strB bs)) sx → Calls Tryz.prog 44 #[.pointer (some ⟨X, 0, none⟩)] W fun x w' => ∃ s', x = .returned (.slice s'.p s'.n s'.c) ∧ Bf W w' s' (setB (putC c i) (putE c es i (strB bs))) := fun W X sx hX => by
        have hlt : (takeT ts (strB bs) ++ [(⟨strB bs, i, (c.getD i 0).toNat + 1⟩ : Tg)]).length ≤ 97 := by
         have : (takeT ts (strB bs)).length ≤ ts.length := List.length_filter_le _ _
         rw [List.length_append]; simp only [List.length_cons, List.length_nil]; omega
        have hel := els_eq hT k1.so k1.nz (fun x hx => (k1.wi x hx).1)
        have hel2 : (putE c es i (strB bs)).length ≤ 97 := by
         have := elsT_len (takeT ts (strB bs) ++ [(⟨strB bs, i, (c.getD i 0).toNat + 1⟩ : Tg)]) []
         rw [hel, List.length_map] at this
         simp only [List.length_nil] at this
         omega
        exact dform_set (r := putD (rvO (.set c es) ts) i (strB bs)) hX rfl (by show (takeT ts (strB bs) ++ [(⟨strB bs, i, (c.getD i 0).toNat + 1⟩ : Tg)]).length ≤ _; omega) k2.sm hel (by omega) (fun x hx => by have := (k3 x hx).2; omega) (fun x hx => by
         have h1 := Rl.tr hT k2 x.e (k1.tg x.e)
         rw [tg_mem k1.so hx] at h1
         exact h1)
       by_cases hw : 64 < (setB (putC c i) (putE c es i (strB bs))).length
       ·refine (rput_wide (r := rvO (.set c es) ts) hW rfl (by show ts.length ≤ _; omega) hi (by rw [hsz]; exact he) hci.1 (by show ¬ c.getD i 0 ≥ 65535; omega) hw hF).mono fun x w' hh => fin (DoP.no hW hr ?_ hh)
        rw [putR_set ha, if_neg (neE he), if_neg hf, if_pos hw]
       ·refine (rput_ok (r := rvO (.set c es) ts) hW rfl (by show ts.length ≤ _; omega) hi (by rw [hsz]; exact he) hci.1 (by show ¬ c.getD i 0 ≥ 65535; omega) hw hF).mono fun x w' hh => fin ?_
        obtain ⟨rfl, a', s', k'⟩ := hh
        have e : putR (.set c es) i bs = (0, .set (putC c i) (putE c es i (strB bs))) := by
         rw [putR_set ha, if_neg (neE he), if_neg hf, if_neg hw]
        rw [e]
        exact ⟨rfl, a', _, s', k', hT, Fw.of hT (few_of k1 k2 (fun x hx => (k3 x hx).1) (by omega))⟩
     ·have he' : isE bs.length = false := by simpa using he
      refine (rput_arg (by rw [hsz]; exact he')).mono fun x w' hh => fin (DoP.no hW hr ?_ hh)
      rw [putR_set ha, if_pos he']
    refine (rdo_put h rfl rfl hi q.rd q.len q.ok (Q := fun x W w' => DoP W O (putR (.set c es) i bs) x w') key).mono ?_
    rintro x w' ⟨e, W, -, a', h1, h2, h3⟩
    exact ⟨h1, (a'.mono (by simp)).trans h2, h3⟩
   ·refine (rdo_actor2 h rfl (isA_not ha)).mono fun x w' => DoP.no h hr ?_
    simp [putR, isA_not ha]
  | cnt u d => exact (rdo_type2 h rfl (kd := 1) (by decide)).mono fun x w' => DoP.no h hr rfl
  | flg c g => exact (rdo_type2 h rfl (kd := 3) (by decide)).mono fun x w' => DoP.no h hr rfl
  | rgs n x t => exact (rdo_type2 h rfl (kd := 4) (by decide)).mono fun x w' => DoP.no h hr rfl
 ·rw [doV3]
  cases v using Vl.el with
  | set c es =>
   obtain ⟨⟨hg, hc, hs⟩, -⟩ := iv.gt
   have hl := hr.len
   refine (rdo_take h rfl (by show ts.length ≤ _; omega) q.rd q.len q.ok).mono ?_
   rintro x w' ⟨rfl, a', s', k'⟩
   exact ⟨rfl, a', takeT ts (strB bs), s', k', (hr.1.take (strB bs)).congr fun x => (tg_lohi hg.so _ x).symm, hr.2.sub _⟩
  | cnt u d => exact (rdo_type3 h rfl (kd := 1) (by decide)).mono fun x w' => DoP.no h hr rfl
  | flg c g => exact (rdo_type3 h rfl (kd := 3) (by decide)).mono fun x w' => DoP.no h hr rfl
  | rgs n x t => exact (rdo_type3 h rfl (kd := 4) (by decide)).mono fun x w' => DoP.no h hr rfl
 ·rw [doV4]
  cases v using Vl.el with
  | flg c g =>
   by_cases ha : isA a = true
   ·obtain ⟨i, rfl, hi, hx⟩ := isA_i ha
    obtain ⟨⟨hc, hw⟩, -⟩ := iv.gt
    have hci := hc.2 i
    cases on with
    | false =>
     refine (rdo_off h rfl hi rfl rfl).mono ?_
     rintro x w' ⟨rfl, a', s', k'⟩
     have e : switchR (.flg c g) i false = (0, .flg c zr) := by simp [switchR, ha]
     rw [e]
     exact ⟨rfl, a', [], s', k', Ts.nil.congr fun x => by unfold flT; split <;> rfl, Fw.nil⟩
    | true =>
     by_cases hf : c.getD i 0 = 65535
     ·refine (rdo_onfull h rfl hi rfl rfl (by show c.getD i 0 ≥ 65535; omega)).mono fun x w' => DoP.no h hr ?_
      rw [switchR_flg ha, if_pos hf]
     ·refine (rdo_on h rfl hi rfl rfl hci.1 (by show ¬ c.getD i 0 ≥ 65535; omega)).mono ?_
      rintro x w' ⟨rfl, a', s', k'⟩
      have e : switchR (.flg c g) i true = (0, .flg (c.set i (c.getD i 0 + 1)) (zr.set i (c.getD i 0 + 1))) := by rw [switchR_flg ha, if_neg hf]
      rw [e]
      have hT : Ts [(⟨⟨#[]⟩, i, (c.getD i 0).toNat + 1⟩ : Tg)] (flT (zr.set i (c.getD i 0 + 1))) := by
       have h1 := Ts.nil.put (e := ⟨#[]⟩) rfl hi (show 0 < (c.getD i 0).toNat + 1 by omega)
       refine h1.congr fun x => ?_
       unfold flT
       by_cases hxx : x = ⟨#[]⟩
       ·rw [if_pos hxx, if_pos hxx]
        have : (((c.getD i 0).toNat + 1 : Nat) : Int) = c.getD i 0 + 1 := by omega
        rw [this]
       ·rw [if_neg hxx, if_neg hxx]
      refine ⟨rfl, a', _, s', k', hT, fun a ha => ?_⟩
      unfold cntA
      refine Nat.le_trans (List.length_filter_le _ _) (by simp)
   ·refine (rdo_actor4 h rfl (isA_not ha)).mono fun x w' => DoP.no h hr ?_
    simp [switchR, isA_not ha]
  | cnt u d => exact (rdo_type4 h rfl (kd := 1) (by decide)).mono fun x w' => DoP.no h hr rfl
  | set c es => exact (rdo_type4 h rfl (kd := 2) (by decide)).mono fun x w' => DoP.no h hr rfl
  | rgs n x t => exact (rdo_type4 h rfl (kd := 4) (by decide)).mono fun x w' => DoP.no h hr rfl
 ·rw [doV5]
  cases v using Vl.el with
  | rgs n y t =>
   by_cases ha : isA a = true
   ·obtain ⟨i, rfl, hi, hx⟩ := isA_i ha
    obtain ⟨⟨h0, h1, h2⟩, -⟩ := iv.gt
    have e0 : ts = [] := hr
    by_cases hn : bs.length > 59
    ·refine (rdo_long h rfl hi rfl q.rd q.len q.ok hn).mono fun x w' => DoP.no h hr ?_
     simp [writeR, ha, hn]
    ·by_cases hf : n = 16777215
     ·refine (rdo_stamp h rfl hi rfl q.rd q.len q.ok hn (by show n ≥ 16777215; omega)).mono fun x w' => DoP.no h hr ?_
      simp [writeR, ha, hn, hf]
     ·refine (rdo_write h rfl hi rfl q.rd q.len q.ok hO hn h0.1 (by show ¬ n ≥ 16777215; omega)).mono ?_
      rintro x w' ⟨rfl, a', s', k'⟩
      have e : writeR (.rgs n y t) i bs = (0, .rgs (n + 1) (i : Int) (strB bs)) := by simp [writeR, ha, hn, hf]
      rw [e]
      exact ⟨rfl, a', ts, s', k', hr⟩
   ·refine (rdo_actor5 h rfl (isA_not ha)).mono fun x w' => DoP.no h hr ?_
    simp [writeR, isA_not ha]
  | cnt u d => exact (rdo_type5 h rfl (kd := 1) (by decide)).mono fun x w' => DoP.no h hr rfl
  | set c es => exact (rdo_type5 h rfl (kd := 2) (by decide)).mono fun x w' => DoP.no h hr rfl
  | flg c g => exact (rdo_type5 h rfl (kd := 3) (by decide)).mono fun x w' => DoP.no h hr rfl
theorem mask3 (z : Int) : ∃ m : Nat, m < 4 ∧ bits .and .i64 z 3 = (m : Int) := by
 refine ⟨(BitVec.ofInt 64 z).toNat &&& 3, Nat.lt_of_le_of_lt Nat.and_le_right (by decide), ?_⟩
 have h1 : (BitVec.ofInt 64 z).toNat &&& 3 ≤ 3 := Nat.and_le_right
 show IntKind.i64.wrap ((BitVec.ofInt 64 z &&& BitVec.ofInt 64 3).toNat : Int) = _
 have h2 : (BitVec.ofInt 64 (3 : Int)).toNat = 3 := by decide
 rw [BitVec.toNat_and, h2, IntKind.wrap_i64]
 omega
def opC (K I J a b : Int) (on : Bool) (sl : Sl) : Array Value := #[.int .i64 K, .int .i64 I, .int .i64 J, .int .i64 a, .int .i64 b, .bool on, .slice sl.p sl.n sl.c]
theorem build81 (k a b : Int) (on : Bool) (s : Sl) (W : World) : (Instr.build 81 #[(0, .int .i64 k), (1, .int .i64 a), (2, .int .i64 b), (3, .bool on), (4, .slice s.p s.n s.c)]).run Tryz.prog W = .ok (.agg #[.int .i64 k, .int .i64 a, .int .i64 b, .bool on, .slice s.p s.n s.c]) W := by kernel_rfl
theorem ex_build81 {W : World} {eval : Operand → Value} {op : Oper} {k a b : Int} {on : Bool} {s : Sl} (x0 x1 x2 x3 x4 : Operand) (ho : op.op = .build 81 #[(0, x0), (1, x1), (2, x2), (3, x3), (4, x4)]) (h0 : eval x0 = .int .i64 k) (h1 : eval x1 = .int .i64 a) (h2 : eval x2 = .int .i64 b) (h3 : eval x3 = .bool on) (h4 : eval x4 = .slice s.p s.n s.c) : (execOp eval op).run Tryz.prog W = .ok (.value (.agg #[.int .i64 k, .int .i64 a, .int .i64 b, .bool on, .slice s.p s.n s.c])) W := by
 unfold execOp
 have e1 : (#[(0, x0), (1, x1), (2, x2), (3, x3), (4, x4)] : Array (Nat × Operand)).map (fun (i, x) => (i, eval x)) = #[(0, .int .i64 k), (1, .int .i64 a), (2, .int .i64 b), (3, .bool on), (4, .slice s.p s.n s.c)] := by simp [h0, h1, h2, h3, h4]
 simp only [ho, e1, Sem.run_bind, build81 k a b on s W, Sem.run_pure, Result.andThen_ok]
theorem Gv.keptX {w w' : World} {sl : Sl} {bs : List Nat} {X : List Nat} (h : Gv w sl bs) (a : Apart X w w') (hX : ∀ P o, sl.p = some ⟨P, o, none⟩ ∧ bs ≠ [] → P ∉ X) : Gv w' sl bs := ⟨h.rd.keptN a hX, h.len, h.ok, h.u8, h.le⟩
variable {wB w w' w2 : World} {T k : Nat} {p r : Nat → Nat} {v : Nat → Vl} {ts : Nat → List Tg} {H L : List Sl} {sH sL : Sl} {h : Nat → Prop}
def StP (wB : World) (T k : Nat) (H L : List Sl) (x : Ending) (w' : World) : Prop := x = .returned (.bool true) ∧ ∃ p r v ts H' L' sH sL h, Tb wB w' T k p r v ts H' L' sH sL h ∧ H'.length ≤ H.length + 400 ∧ L'.length ≤ L.length + 1 ∧ (∀ x ∈ H', x ∈ H ∨ x.n ≤ 200) ∧ (∀ x ∈ L', x ∈ L ∨ x.n ≤ 200)
theorem does1 (t : Tb wB w T k p r v ts H L sH sL h) {I J a b : Int} {on : Bool} {sl : Sl} {bs : List Nat} (gv : Gv w sl bs) (hB : ∀ P o, sl.p = some ⟨P, o, none⟩ ∧ bs ≠ [] → P < wB.heap.size) : Calls Tryz.prog 20 #[.pointer (some ⟨T, 0, none⟩), .agg (opC 1 I J a b on sl)] w fun x w' => StP wB T k H L x w' := by
 obtain ⟨i, hi, hmask⟩ := mask3 I
 have Hi := hid hi
 have Hi4 : Hid (¬ (4 : Int) ≤ (i : Int)) := hid (by omega)
 have HT := hid t
 have HGv := hid gv
 have HB := hid hB
 obtain ⟨n, Hn⟩ : ∃ n, Hid (n = sl.n) := ⟨_, hid rfl⟩
 have hn2 : n ≤ 2000000 := by rw [Hn.out, ← gv.len]; exact gv.le
 obtain ⟨A, HAe⟩ : ∃ A, Hid (A = w.heap.size) := ⟨_, hid rfl⟩
 obtain ⟨w1, Hw1⟩ : ∃ W, Hid (W = w.alloc (.cells (opC 1 I J a b on sl) 31)) := ⟨_, hid rfl⟩
 have HA1 : Hid (Apart [] w w1) := hid (zM Hw1.out)
 have HBA1 : Hid (w1.heap[A]? = some (.cells (opC 1 I J a b on sl) 31 (0, 0))) := hid (zN HAe.out Hw1.out)
 have HAw : Hid (w.heap.size ≤ A) := hid (by rw [HAe.out]; exact Nat.le_refl _)
 have HLe := hid (lent_ok (HGv.out.kept0 HA1.out))
 have za1 : w1.cell? ⟨A, 1, none⟩ = some (.int .i64 I) := zK HBA1.out
 have za6 : w1.cell? ⟨A, 6, none⟩ = some (.slice sl.p n sl.c) := by rw [cell_of_row _ _ _ _ _ _ HBA1.out, Hn.out]; rfl
 rw [← Hn.out] at HLe
 clear t gv hB hi
 go_enter Tryz.func20, Tryz.ntmps20
 go_upto_region 1 with fail
 rw [← HAe.out, ← Hw1.out]
 clear Hw1 HAe
 go_upto_region 3 with (
  go_at_call 35
  refine HLe.out.mono ?_
  rintro _ w2 ⟨s2, rfl, b2⟩
  have HS2 := hid b2
  clear b2)
 clear za1 za6 hmask
 have HA2 := hid (HA1.out.trans HS2.out.nw.ap)
 have HT2 := hid (HT.out.kept0 HA2.out)
 have HBA := hid (keep0 HS2.out.nw.ap HBA1.out)
 have Hq2 : Hid (Bq w2 (s2.preB n) bs) := hid (Bq.pre (k := n) ⟨HS2.out.nw.rd, HS2.out.len.symm, HS2.out.nw.ok⟩ (by rw [Hn.out]; exact HGv.out.len.symm))
 have hsc : n ≤ s2.c := by
  have h1 := HS2.out.nw.cap
  have h2 := HS2.out.len
  have h3 := HGv.out.len
  have h4 := Hn.out
  rw [List.length_append] at h2
  omega
 have za6 : w2.cell? ⟨A, 6, none⟩ = some (.slice sl.p n sl.c) := by rw [cell_of_row _ _ _ _ _ _ HBA.out, Hn.out]; rfl
 go_upto_region 5 with (refine wpL_val rfl (.slice (s2.preB n).p (s2.preB n).n (s2.preB n).c) (ex_preB s2 n _ _ rfl rfl rfl hsc) ?_)
 clear za6 hsc
 have za0 : w2.cell? ⟨A, 0, none⟩ = some (.int .i64 1) := zK HBA.out
 have HC0 : Hid (∀ W, Apart [] w2 W → Calls Tryz.prog 15 #[.pointer (some ⟨p i, 0, none⟩), .int .i64 a, .int .i64 b] W fun x w' => x = .returned (.int .i64 (doV (v i) 1 a b on bs).1) ∧ Ho w' (p i) (doV (v i) 1 a b on bs).2 ∧ Apart [p i] W w') := hid (by
  have hi := Hi.out
  have t2 := HT2.out
  have q2 := Hq2.out
  have ok := (t2.rl i hi).ok (t2.iv i hi).gt.1
  intro W hW
  exact Add_v (t2.pv i hi |>.kept0 hW) ok a b)
 obtain ⟨s0, hs0⟩ := HT2.out.rv i Hi.out
 have HD2 := hid hs0
 obtain ⟨b0, hb0⟩ := HT2.out.bdP Hi.out
 have HP2 := hid hb0
 have HTl := hid (lt_of_heap HT2.out.blk)
 have HAl := hid (lt_of_heap HBA.out)
 have HTp : Hid (T ∉ [p i]) := hid (fun hm => by
  have e := HP2.out
  rw [← List.mem_singleton.1 hm, HT2.out.blk] at e
  simp at e)
 have HAp : Hid (A ∉ [p i]) := hid (fun hm => by
  have e := HP2.out
  rw [← List.mem_singleton.1 hm, HBA.out] at e
  simp at e)
 have HTr : Hid (T ∉ [r i]) := hid (fun hm => by
  have e := HD2.out.dv.blk
  rw [← List.mem_singleton.1 hm, HT2.out.blk] at e
  simp at e)
 have HAr : Hid (A ∉ [r i]) := hid (fun hm => by
  have e := HD2.out.dv.blk
  rw [← List.mem_singleton.1 hm, HBA.out] at e
  simp at e)
 have HRp : Hid (r i ∉ [p i]) := hid (fun hm => by
  have e := HP2.out
  rw [← List.mem_singleton.1 hm, HD2.out.dv.blk] at e
  simp at e)
 obtain ⟨e1, He1⟩ : ∃ e1, Hid (e1 = (doV (v i) 1 a b on bs).1) := ⟨_, hid rfl⟩
 obtain ⟨v1, Hv1⟩ : ∃ v1, Hid (v1 = (doV (v i) 1 a b on bs).2) := ⟨_, hid rfl⟩
 have HC : Hid (∀ W, Apart [] w2 W → Calls Tryz.prog 15 #[.pointer (some ⟨p i, 0, none⟩), .int .i64 a, .int .i64 b] W fun x w' => x = .returned (.int .i64 e1) ∧ Ho w' (p i) v1 ∧ Apart [p i] W w') := hid (by rw [He1.out, Hv1.out]; exact HC0.out)
 clear hs0 hb0 HC0
 go_upto_region 7 with fail
 have hAd : Apart [p i] w2 w2.drew := (Apart.refl [p i] w2).drew
 have HAd : Hid (Apart [] w2 w2.drew) := hid ((Apart.refl [] w2).drew)
 refine wp_region_held_drew (S := fun W => Apart [p i] w2 W) (by kernel_rfl) hAd (fun hHeld => ?_)
 generalize w2.drew = wd at *
 clear hAd
 refine zt 0 25 ?_
 refine zt 1 26 ?_
 refine zt 2 27 ?_
 refine zt 3 28 ?_
 simp only [zA,zB,zC,zD,zF]
 refine tk 4 29 (.pointer (some ⟨T, 1 + i, none⟩)) rfl ?_ ?_
 ·intro W hSW; have h4 : ¬ (4 : Int) ≤ (i : Int) := (by have := Hi.out; omega); go_simp
 refine zu 5 30 rfl (fun W hSW => by have z : W.cell? ⟨T, 1 + i, none⟩ = some (.pointer (some ⟨p i, 0, none⟩)) := (hSW.cell HTl.out HTp.out).trans (HT2.out.cp Hi.out); go_simp <;> rfl) ?_
 refine zt 6 31 ?_
 refine zu 7 32 rfl (fun W hSW => by have z : W.cell? ⟨A, 3, none⟩ = some (.int .i64 a) := (hSW.cell HAl.out HAp.out).trans (zK HBA.out); go_simp <;> rfl) ?_
 refine zt 8 33 ?_
 refine zu 9 34 rfl (fun W hSW => by have z : W.cell? ⟨A, 4, none⟩ = some (.int .i64 b) := (hSW.cell HAl.out HAp.out).trans (zK HBA.out); go_simp <;> rfl) ?_
 simp only [zA,zB,zC,zD,zF]
 refine zQ 10 fun KK hKK => ?_
 have hC := HC.out wd HAd.out
 go_simp
 refine hC.mono ?_
 rintro _ w4 ⟨rfl, hv4, a4⟩
 have HV4 := hid hv4
 have hHx := hHeld.trans a4
 clear hv4 a4 hC
 try dsimp only
 refine hKK.out _ _ hHx (fun hHeld => ?_)
 clear hKK KK
 try simp only [zA,zB,zC,zD,zF]
 refine zt 11 8 ?_
 simp only [zA,zB,zC,zD,zF]
 refine wpAnyH_done (by kernel_rfl) ?_ _
 have HA4 : Hid (Apart [p i] w2 w4) := hid hHeld
 clear hHeld hHx
 have HTl4 : Hid (T < w4.heap.size) := hid (Nat.lt_of_lt_of_le HTl.out HA4.out.size)
 have HAl4 : Hid (A < w4.heap.size) := hid (Nat.lt_of_lt_of_le HAl.out HA4.out.size)
 have HTc4 : Hid (w4.cell? ⟨T, 5 + i, none⟩ = some (.pointer (some ⟨r i, 0, none⟩))) := hid ((HA4.out.cell HTl.out HTp.out).trans (HT2.out.cr Hi.out))
 have HBA4 : Hid (w4.heap[A]? = some (.cells (opC 1 I J a b on sl) 31 (0, 0))) := hid ((HA4.out.block A HAl.out HAp.out).trans HBA.out)
 have HD4 : Hid (Dk w4 (r i) (rvO (v i) (ts i)) s0) := hid (HD2.out.other HA4.out HRp.out (fun q hq cur m e => by
  rw [List.mem_singleton.1 hq, HP2.out] at e
  simp at e))
 have HBi : Hid (wB.heap.size ≤ p i ∧ wB.heap.size ≤ r i) := hid ⟨HT2.out.pn i Hi.out, HT2.out.rn i Hi.out⟩
 have HG4 : Hid (Gv w4 sl bs) := hid ((HGv.out.kept0 HA2.out).keptX HA4.out (fun P o e hm => by
  have h1 := HB.out P o e
  have h2 := HBi.out.1
  rw [← List.mem_singleton.1 hm] at h2
  omega))
 have HCr : Hid (∀ W, Apart [] w4 W → Calls Tryz.prog 40 #[.pointer (some ⟨r i, 0, none⟩), .agg (actC 1 a b on sl)] W fun x w' => x = .returned (.int .i64 e1) ∧ Apart [r i] W w' ∧ ∃ ts' s', Dk w' (r i) (rvO v1 ts') s' ∧ Rl v1 ts') := hid (by
  intro W hW
  rw [He1.out, Hv1.out]
  exact rdo_ok (HD4.out.kept0 hW) (HT2.out.rl i Hi.out) (HT2.out.iv i Hi.out) (HG4.out.kept0 hW).bq (fun P o e hm => by
   have h1 := HB.out P o e
   have h2 := HBi.out.2
   rw [← hm] at h2
   omega) 1 (by decide) (by decide) a b on)
 go_upto_region 16 with fail
 have hAd : Apart [r i] w4 w4.drew := (Apart.refl [r i] w4).drew
 have HAd4 : Hid (Apart [] w4 w4.drew) := hid ((Apart.refl [] w4).drew)
 refine wp_region_held_drew (S := fun W => Apart [r i] w4 W) (by kernel_rfl) hAd (fun hHeld => ?_)
 generalize w4.drew = wd4 at *
 clear hAd
 refine zt 0 83 ?_
 refine zt 1 84 ?_
 refine zt 2 85 ?_
 refine zt 3 86 ?_
 simp only [zA,zB,zC,zD,zF]
 refine tk 4 87 (.pointer (some ⟨T, 5 + i, none⟩)) rfl ?_ ?_
 ·intro W hSW; have h4 : ¬ (4 : Int) ≤ (i : Int) := (by have := Hi.out; omega); go_simp
 refine zu 5 88 rfl (fun W hSW => by have z : W.cell? ⟨T, 5 + i, none⟩ = some (.pointer (some ⟨r i, 0, none⟩)) := (hSW.cell HTl4.out HTr.out).trans HTc4.out; go_simp <;> rfl) ?_
 refine zt 6 89 ?_
 refine zu 7 90 rfl (fun W hSW => by have z : W.cell? ⟨A, 0, none⟩ = some (.int .i64 1) := (hSW.cell HAl4.out HAr.out).trans (zK HBA4.out); go_simp <;> rfl) ?_
 refine zt 8 91 ?_
 refine zu 9 92 rfl (fun W hSW => by have z : W.cell? ⟨A, 3, none⟩ = some (.int .i64 a) := (hSW.cell HAl4.out HAr.out).trans (zK HBA4.out); go_simp <;> rfl) ?_
 refine zt 10 93 ?_
 refine zu 11 94 rfl (fun W hSW => by have z : W.cell? ⟨A, 4, none⟩ = some (.int .i64 b) := (hSW.cell HAl4.out HAr.out).trans (zK HBA4.out); go_simp <;> rfl) ?_
 refine zt 12 95 ?_
 refine zu 13 96 rfl (fun W hSW => by have z : W.cell? ⟨A, 5, none⟩ = some (.bool on) := (hSW.cell HAl4.out HAr.out).trans (zK HBA4.out); go_simp <;> rfl) ?_
 refine zt 14 97 ?_
 refine zu 15 98 rfl (fun W hSW => by have z : W.cell? ⟨A, 6, none⟩ = some (.slice sl.p sl.n sl.c) := (hSW.cell HAl4.out HAr.out).trans (zK HBA4.out); go_simp <;> rfl) ?_
 simp only [zA,zB,zC,zD,zF]
 refine tk 16 99 (.agg (actC 1 a b on sl)) rfl ?_ ?_
 ·intro W hSW; exact ex_build81 _ _ _ _ _ rfl rfl rfl rfl rfl rfl
 simp only [zA,zB,zC,zD,zF]
 refine zQ 17 fun KK hKK => ?_
 have hC := HCr.out wd4 HAd4.out
 go_simp
 refine hC.mono ?_
 rintro _ w5 ⟨rfl, a5, ts5, s5, k5, l5⟩
 have HD5 := hid k5
 have HL5 := hid l5
 have hHx := hHeld.trans a5
 clear k5 l5 a5 hC
 try dsimp only
 refine hKK.out _ _ hHx (fun hHeld => ?_)
 clear hKK KK
 try simp only [zA,zB,zC,zD,zF]
 refine zt 18 9 ?_
 simp only [zA,zB,zC,zD,zF]
 refine wpAnyH_done (by kernel_rfl) ?_ _
 have HA5 : Hid (Apart [r i] w4 w5) := hid hHeld
 clear hHeld hHx
 -- the table, behind both
 have HV5 : Hid (Ho w5 (p i) v1) := hid (HV4.out.keptX HA5.out (fun hm => HRp.out (by rw [← List.mem_singleton.1 hm]; simp)) (fun q hq cur m e => by
  rw [List.mem_singleton.1 hq, HD4.out.dv.blk] at e
  simp at e))
 have HTb5 : Hid (w5.heap[T]? = some (.cells (tbC k p r sH sL).toArray 49 (0, 0))) := hid ((HA5.out.block T HTl4.out HTr.out).trans ((HA4.out.block T HTl.out HTp.out).trans HT2.out.blk))
 have HA25 : Hid (Apart [p i, r i, T] w2 w5) := hid ((HA4.out.mono (by simp)).trans (HA5.out.mono (by simp)))
 have Hiv : Hid (Iv v1 ∧ v1.kd = k) := hid (by
  have iv := HT2.out.iv i Hi.out
  have kd := HT2.out.kd i Hi.out
  rw [Hv1.out, ← kd]
  exact iv.add a b)
 have HT5 : Hid (Tb wB w5 T k p r (upd v i v1) (upd ts i ts5) H L sH sL h) := hid (by
  have e := HT2.out.next Hi.out (p' := p i) (r' := r i) HA25.out (by rw [upd_self, upd_self]; exact HTb5.out) (.inl rfl) (.inl rfl) HV5.out HD5.out Hiv.out.1 HL5.out Hiv.out.2
  rw [upd_self, upd_self] at e
  exact e)
 have HS5 : Hid (Bf wB w5 s2 (bs ++ [7, 8])) := hid (by
  have hne : ∀ {X : Nat}, (∃ cur t m, t ≠ 5 ∧ w2.heap[X]? = some (.cells cur t m)) → ∀ q, s2.v.ownBlock = some q → q ≠ X := fun {X} hx q hq e => by
   obtain ⟨cur, e2⟩ := own_typ HS2.out.nw.own hq
   obtain ⟨c2, t2, m2, h5, e3⟩ := hx
   rw [e, e3] at e2
   simp only [Option.some.injEq, Obj.cells.injEq] at e2
   exact h5 e2.2.1
  refine ⟨⟨own_apart (own_apart HS2.out.nw.own HA4.out (fun q hq hm => hne ⟨_, _, _, (by decide), HP2.out⟩ q hq (List.mem_singleton.1 hm))) HA5.out (fun q hq hm => hne ⟨_, _, _, (by decide), HD2.out.dv.blk⟩ q hq (List.mem_singleton.1 hm)), fun q hq => ?_, HT5.out.ap⟩, HS2.out.len⟩
  have h1 := HS2.out.nw.new q hq
  have h2 := HT.out.ap.size
  have h3 := HA1.out.size
  omega)
 have HG5 : Hid (Gv w5 sl bs) := hid (HG4.out.keptX HA5.out (fun P o e hm => by
  have h1 := HB.out P o e
  have h2 := HBi.out.2
  rw [← List.mem_singleton.1 hm] at h2
  omega))
 have HBk := hid (back_ok HS5.out HG5.out)
 have HBA5 : Hid (w5.heap[A]? = some (.cells (opC 1 I J a b on sl) 31 (0, 0))) := hid ((HA5.out.block A HAl4.out HAr.out).trans HBA4.out)
 have za6 : w5.cell? ⟨A, 6, none⟩ = some (.slice sl.p sl.n sl.c) := zK HBA5.out
 have heq : (e1 == e1) = true := by simp
 have HFin : Hid (∀ w6, Apart s2.v.ownBlock.toList w5 w6 → StP wB T k H L (.returned (.bool true)) w6) := hid (by
  intro w6 a6
  refine ⟨rfl, p, r, _, _, H, L, sH, sL, h, HT5.out.kept a6 (fun P hP => ?_), by omega, by omega, fun x hx => .inl hx, fun x hx => .inl hx⟩
  have hP' : s2.v.ownBlock = some P := by simpa using hP
  obtain ⟨cur, e⟩ := own_typ HS5.out.nw.own hP'
  have hnew := HS2.out.nw.new P hP'
  have h3 := HA1.out.size
  refine ⟨⟨⟨cur, _, .inl e⟩, fun hh => ?_, fun hh => ?_⟩, HS5.out.nw.new P hP'⟩
  ·obtain ⟨-, ⟨c, m, e2⟩, -⟩ := HT.out.hh P hh
   have : P < w.heap.size := e2.elim lt_of_heapM lt_of_heapM
   omega
  ·obtain ⟨c, e2⟩ := own_typ HT.out.nh.own hh
   have := lt_of_heap e2
   omega)
 clear HTb5 HA25 Hiv HT5 HS5 HG5 HBA5 HV5 HD5 HL5 HD4 HG4 HCr HC HTc4 HBA4
 go_wp2_with (
  go_at_call 41
  refine HBk.out.mono ?_
  rintro _ w6 ⟨rfl, a6⟩
  have HA6 := hid a6
  clear a6)
 go_ret
 exact HFin.out _ HA6.out
end Go.Proofs.YtdbeeikjngnnnaaGreat.ty
