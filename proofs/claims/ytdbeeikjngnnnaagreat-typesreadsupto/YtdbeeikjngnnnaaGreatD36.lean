import Derived.Test.YtdbeeikjngnnnaaGreatChecked
import Derived.WalkKit
import Derived.ProofKit
import Derived.OpenShut
import Derived.Deep.QuietTactic
import Derived.BigQuiet
import Derived.BigRegion
import Derived.Laws.CopyOwn
import Derived.Laws.IdiomCopy
import Derived.WalkSmall
import Derived.Laws.ResultCell
import Derived.Laws.AppendOwnNone
import Derived.Deep.RegionHeld
import Derived.Deep.DeepAppendRoom
import Derived.Great.BuildSlice
import Derived.Deep.CutBlock
import Derived.Deep.RegionLaw
import Derived.ArgAppend
import Derived.Laws.Strings
import Derived.Laws.StructEq
import Derived.Below
import Derived.Deep.MidRow
import Derived.Great.Ranges
import Derived.Deep.RegionHeld3
import Derived.Laws.NewBlocks
import Derived.OrdersHeld
import Derived.Stop.BytesEq
import Derived.Laws.BytesString
import Derived.Lib.ConvBytes
import Derived.Laws.BitsAllLaws
import Derived.WalkLawsBesides
import Derived.Lib.Bytealg
import Derived.Laws.Externs
import Derived.Lib.SliceRun
import Derived.Lib.AppendZerosOnto
import Derived.Lib.AppendStr
import Derived.Lib.SlBytesConst
import Derived.Sort.Walk0
import Derived.Laws.Cover1
import Derived.Lib.Strings
import Derived.Lib.MinMaxS
import GoSem.Claim
import GoSem.ClaimJoined
import GoSem.ClaimMapViews
import Derived.JoinedTies
import Derived.KernelRfl
import Derived.JoinedCond
import Derived.ShutString
import Derived.ChangeOld
import Derived.Carry
import Derived.ChangeSlices
import Derived.Deep.Slices
import Derived.Deep.DeepHandedRow
import Derived.RowKit
import Derived.ChangeShapes
import Derived.SizedLaws
import Derived.ChangeMaps5
import Derived.Sort.WalkA
import Derived.Test.YtdbeeikjngnnnaaGreatRows
import Derived.Test.YtdbeeikjngnnnaaGreatD34
import Derived.Test.YtdbeeikjngnnnaaGreatD35
namespace Go.Proofs.YtdbeeikjngnnnaaGreat.ty
open Go.ChangeShapes Go.WideShapes Go.ChangeAt Go.RowKit
set_option linter.unusedVariables false
set_option linter.unusedSimpArgs false
theorem doV1 (v : Vl) (a b : Int) (on : Bool) (bs : List Nat) : doV v 1 a b on bs = addR v a b := rfl
theorem doV2 (v : Vl) (a b : Int) (on : Bool) (bs : List Nat) : doV v 2 a b on bs = putR v a bs := rfl
theorem doV3 (v : Vl) (a b : Int) (on : Bool) (bs : List Nat) : doV v 3 a b on bs = takeR v bs := rfl
theorem doV4 (v : Vl) (a b : Int) (on : Bool) (bs : List Nat) : doV v 4 a b on bs = switchR v a on := rfl
theorem doV5 (v : Vl) (a b : Int) (on : Bool) (bs : List Nat) : doV v 5 a b on bs = writeR v a bs := rfl
/-- what the document's Do leaves -/
def DoP (w : World) (O : Nat) (x : Int × Vl) (r : Ending) (w' : World) : Prop := r = .returned (.int .i64 x.1) ∧ Apart [O] w w' ∧ ∃ ts s, Dk w' O (rvO x.2 ts) s ∧ Rl x.2 ts
theorem DoP.no {w w' : World} {O : Nat} {v : Vl} {ts : List Tg} {s : Sl} (h : Dk w O (rvO v ts) s) (hr : Rl v ts) {e : Int} {x : Int × Vl} (hx : x = (e, v)) {r : Ending} (k : r = .returned (.int .i64 e) ∧ Apart [] w w') : DoP w O x r w' := by
  obtain ⟨rfl, a⟩ := k
  subst hx
  exact ⟨rfl, a.mono (by simp), ts, s, h.kept0 a, hr⟩
theorem isA_not {a : Int} (h : ¬ isA a = true) : isA a = false := by simpa using h
theorem putR_set {c : List Int} {es : List En} {i : Nat} {bs : List Nat} (ha : isA (i : Int) = true) : putR (.set c es) i bs = if isE bs.length = false then (1, .set c es) else if c.getD i 0 = 65535 then (92, .set c es) else if 64 < (setB (putC c i) (putE c es i (strB bs))).length then (71, .set c es) else (0, .set (putC c i) (putE c es i (strB bs))) := by
  unfold putR
  simp only [Int.toNat_natCast]
  rw [if_neg (by rw [ha]; simp)]
theorem switchR_flg {c g : List Int} {i : Nat} (ha : isA (i : Int) = true) : switchR (.flg c g) i true = if c.getD i 0 = 65535 then (92, .flg c g) else (0, .flg (c.set i (c.getD i 0 + 1)) (zr.set i (c.getD i 0 + 1))) := by
  unfold switchR
  simp only [Int.toNat_natCast]
  rw [if_neg (by rw [ha]; simp), if_neg (by simp)]
theorem neE {n : Nat} (he : isE n = true) : ¬ isE n = false := by rw [he]; simp
set_option maxHeartbeats 1000000 in
/-- the document's Do -/
theorem rdo_ok {w : World} {O : Nat} {v : Vl} {ts : List Tg} {s : Sl} (h : Dk w O (rvO v ts) s) (hr : Rl v ts) (iv : Iv v) {sl : Sl} {bs : List Nat} (q : Bq w sl bs) (hO : ∀ P o, sl.p = some ⟨P, o, none⟩ ∧ bs ≠ [] → P ≠ O) (k : Nat) (h1 : 1 ≤ k) (h5 : k ≤ 5) (a b : Int) (on : Bool) : Calls Tryz.prog 40 #[.pointer (some ⟨O, 0, none⟩), .agg (actC k a b on sl)] w fun r w' => DoP w O (doV v k a b on bs) r w' := by
  have hk := rvO_k v ts
  obtain rfl | rfl | rfl | rfl | rfl : k = 1 ∨ k = 2 ∨ k = 3 ∨ k = 4 ∨ k = 5 := by omega
  · rw [doV1]
    cases v using Vl.el with
    | cnt u d =>
      by_cases ha : isA a = true
      · obtain ⟨i, rfl, hi, hx⟩ := isA_i ha
        obtain ⟨⟨hu, hd⟩, -⟩ := iv.gt
        refine (rdo_add h rfl hi rfl hu hd).mono ?_
        rintro _ w' ⟨rfl, a', s', k'⟩
        have e1 : ts = [] := hr
        have e : addR (.cnt u d) i b = ((addD u d i b).1, .cnt (addD u d i b).2.1 (addD u d i b).2.2) := by
          unfold addD addR
          simp only [hx]
          rw [if_neg (by rw [ha]; simp)]
          by_cases c1 : b > 16777215 ∨ b < -16777215
          · rw [if_pos c1, if_pos c1]
          · rw [if_neg c1, if_neg c1]
            by_cases c2 : u.getD i 0 + max b 0 > 16777215 ∨ d.getD i 0 - min b 0 > 16777215
            · rw [if_pos c2, if_pos c2]
            · rw [if_neg c2, if_neg c2]
        rw [e]
        exact ⟨rfl, a', ts, s', k', hr⟩
      · refine (rdo_actor1 h rfl (isA_not ha)).mono fun x w' => DoP.no h hr ?_
        simp [addR, isA_not ha]
    | set c es => exact (rdo_type1 h rfl (kd := 2) (by decide)).mono fun x w' => DoP.no h hr rfl
    | flg c g => exact (rdo_type1 h rfl (kd := 3) (by decide)).mono fun x w' => DoP.no h hr rfl
    | rgs n x t => exact (rdo_type1 h rfl (kd := 4) (by decide)).mono fun x w' => DoP.no h hr rfl
  · rw [doV2]
    cases v using Vl.el with
    | set c es =>
      by_cases ha : isA a = true
      · obtain ⟨i, rfl, hi, hx⟩ := isA_i ha
        obtain ⟨⟨hg, hc, hs⟩, -⟩ := iv.gt
        have hci := hc.2 i
        have hsz : (strB bs).size = bs.length := strB_size bs
        have hl := hr.len
        have hle := hr.els iv.gt.1
        have hle2 : es.length ≤ 96 := hle
        have key : ∀ W : World, Dk W O (rvO (.set c es) ts) s → Calls Tryz.prog 51 #[.pointer (some ⟨O, 0, none⟩), .int .i64 (i : Int), .string (strB bs)] W fun x w' => ∃ e, x = .returned (.int .i64 e) ∧ DoP W O (putR (.set c es) i bs) x w' := by
          intro W hW
          have fin : ∀ {x : Ending} {w' : World}, DoP W O (putR (.set c es) i bs) x w' → ∃ e, x = .returned (.int .i64 e) ∧ DoP W O (putR (.set c es) i bs) x w' := fun h => ⟨_, h.1, h⟩
          by_cases he : isE bs.length = true
          · by_cases hf : c.getD i 0 = 65535
            · refine (rput_full hW hi (by rw [hsz]; exact he) (by show c.getD i 0 ≥ 65535; omega)).mono fun x w' hh => fin (DoP.no hW hr ?_ hh)
              rw [putR_set ha, if_neg (neE he), if_pos hf]
            · obtain ⟨k1, k2, k3⟩ := put_gd (e := strB bs) hg hc hs iv.sz hi (by rw [hsz]; exact ((isE_iff _).1 he).1) (by rw [hsz]; exact ((isE_iff _).1 he).2) hf
              obtain ⟨n, hn⟩ : ∃ n : Nat, c.getD i 0 = (n : Int) := ⟨(c.getD i 0).toNat, by omega⟩
              have hT : Ts (takeT ts (strB bs) ++ [⟨strB bs, i, (c.getD i 0).toNat + 1⟩]) (tg (putE c es i (strB bs))) := by
                refine ((hr.1.take (strB bs)).put (by simp) hi (by omega)).congr fun x => ?_
                unfold putE
                rw [tg_put hg.so]
                by_cases hxx : x = strB bs
                · rw [if_pos hxx, if_pos hxx]
                  have : (((c.getD i 0).toNat + 1 : Nat) : Int) = c.getD i 0 + 1 := by omega
                  rw [this]
                · rw [if_neg hxx, if_neg hxx, if_neg hxx]
              have hF : ∀ (W : World) (X : Nat) (sx : Sl), Dk W X (putD (rvO (.set c es) ts) i (strB bs)) sx → Calls Tryz.prog 44 #[.pointer (some ⟨X, 0, none⟩)] W fun x w' => ∃ s', x = .returned (.slice s'.p s'.n s'.c) ∧ Bf W w' s' (setB (putC c i) (putE c es i (strB bs))) := fun W X sx hX => by
                have hlt : (takeT ts (strB bs) ++ [(⟨strB bs, i, (c.getD i 0).toNat + 1⟩ : Tg)]).length ≤ 97 := by
                  have : (takeT ts (strB bs)).length ≤ ts.length := List.length_filter_le _ _
                  rw [List.length_append]; simp only [List.length_cons, List.length_nil]; omega
                have hel := els_eq hT k1.so k1.nz (fun x hx => (k1.wi x hx).1)
                have hel2 : (putE c es i (strB bs)).length ≤ 97 := by
                  have := elsT_len (takeT ts (strB bs) ++ [(⟨strB bs, i, (c.getD i 0).toNat + 1⟩ : Tg)]) []
                  rw [hel, List.length_map] at this
                  simp only [List.length_nil] at this
                  omega
                exact dform_set (r := putD (rvO (.set c es) ts) i (strB bs)) hX rfl (by show (takeT ts (strB bs) ++ [(⟨strB bs, i, (c.getD i 0).toNat + 1⟩ : Tg)]).length ≤ _; omega) k2.sm hel (by omega) (fun x hx => by have := (k3 x hx).2; omega) (fun x hx => by
                  have h1 := Rl.tr hT k2 x.e (k1.tg x.e)
                  rw [tg_mem k1.so hx] at h1
                  exact h1)
              by_cases hw : 64 < (setB (putC c i) (putE c es i (strB bs))).length
              · refine (rput_wide (r := rvO (.set c es) ts) hW rfl (by show ts.length ≤ _; omega) hi (by rw [hsz]; exact he) hci.1 (by show ¬ c.getD i 0 ≥ 65535; omega) hw hF).mono fun x w' hh => fin (DoP.no hW hr ?_ hh)
                rw [putR_set ha, if_neg (neE he), if_neg hf, if_pos hw]
              · refine (rput_ok (r := rvO (.set c es) ts) hW rfl (by show ts.length ≤ _; omega) hi (by rw [hsz]; exact he) hci.1 (by show ¬ c.getD i 0 ≥ 65535; omega) hw hF).mono fun x w' hh => fin ?_
                obtain ⟨rfl, a', s', k'⟩ := hh
                have e : putR (.set c es) i bs = (0, .set (putC c i) (putE c es i (strB bs))) := by
                  rw [putR_set ha, if_neg (neE he), if_neg hf, if_neg hw]
                rw [e]
                exact ⟨rfl, a', _, s', k', hT, Fw.of hT (few_of k1 k2 (fun x hx => (k3 x hx).1) (by omega))⟩
          · have he' : isE bs.length = false := by simpa using he
            refine (rput_arg (by rw [hsz]; exact he')).mono fun x w' hh => fin (DoP.no hW hr ?_ hh)
            rw [putR_set ha, if_pos he']
        refine (rdo_put h rfl rfl hi q.rd q.len q.ok (Q := fun x W w' => DoP W O (putR (.set c es) i bs) x w') key).mono ?_
        rintro x w' ⟨e, W, -, a', h1, h2, h3⟩
        exact ⟨h1, (a'.mono (by simp)).trans h2, h3⟩
      · refine (rdo_actor2 h rfl (isA_not ha)).mono fun x w' => DoP.no h hr ?_
        simp [putR, isA_not ha]
    | cnt u d => exact (rdo_type2 h rfl (kd := 1) (by decide)).mono fun x w' => DoP.no h hr rfl
    | flg c g => exact (rdo_type2 h rfl (kd := 3) (by decide)).mono fun x w' => DoP.no h hr rfl
    | rgs n x t => exact (rdo_type2 h rfl (kd := 4) (by decide)).mono fun x w' => DoP.no h hr rfl
  · rw [doV3]
    cases v using Vl.el with
    | set c es =>
      obtain ⟨⟨hg, hc, hs⟩, -⟩ := iv.gt
      have hl := hr.len
      refine (rdo_take h rfl (by show ts.length ≤ _; omega) q.rd q.len q.ok).mono ?_
      rintro x w' ⟨rfl, a', s', k'⟩
      exact ⟨rfl, a', takeT ts (strB bs), s', k', (hr.1.take (strB bs)).congr fun x => (tg_lohi hg.so _ x).symm, hr.2.sub _⟩
    | cnt u d => exact (rdo_type3 h rfl (kd := 1) (by decide)).mono fun x w' => DoP.no h hr rfl
    | flg c g => exact (rdo_type3 h rfl (kd := 3) (by decide)).mono fun x w' => DoP.no h hr rfl
    | rgs n x t => exact (rdo_type3 h rfl (kd := 4) (by decide)).mono fun x w' => DoP.no h hr rfl
  · rw [doV4]
    cases v using Vl.el with
    | flg c g =>
      by_cases ha : isA a = true
      · obtain ⟨i, rfl, hi, hx⟩ := isA_i ha
        obtain ⟨⟨hc, hw⟩, -⟩ := iv.gt
        have hci := hc.2 i
        cases on with
        | false =>
          refine (rdo_off h rfl hi rfl rfl).mono ?_
          rintro x w' ⟨rfl, a', s', k'⟩
          have e : switchR (.flg c g) i false = (0, .flg c zr) := by simp [switchR, ha]
          rw [e]
          exact ⟨rfl, a', [], s', k', Ts.nil.congr fun x => by unfold flT; split <;> rfl, Fw.nil⟩
        | true =>
          by_cases hf : c.getD i 0 = 65535
          · refine (rdo_onfull h rfl hi rfl rfl (by show c.getD i 0 ≥ 65535; omega)).mono fun x w' => DoP.no h hr ?_
            rw [switchR_flg ha, if_pos hf]
          · refine (rdo_on h rfl hi rfl rfl hci.1 (by show ¬ c.getD i 0 ≥ 65535; omega)).mono ?_
            rintro x w' ⟨rfl, a', s', k'⟩
            have e : switchR (.flg c g) i true = (0, .flg (c.set i (c.getD i 0 + 1)) (zr.set i (c.getD i 0 + 1))) := by rw [switchR_flg ha, if_neg hf]
            rw [e]
            have hT : Ts [(⟨⟨#[]⟩, i, (c.getD i 0).toNat + 1⟩ : Tg)] (flT (zr.set i (c.getD i 0 + 1))) := by
              have h1 := Ts.nil.put (e := ⟨#[]⟩) rfl hi (show 0 < (c.getD i 0).toNat + 1 by omega)
              refine h1.congr fun x => ?_
              unfold flT
              by_cases hxx : x = ⟨#[]⟩
              · rw [if_pos hxx, if_pos hxx]
                have : (((c.getD i 0).toNat + 1 : Nat) : Int) = c.getD i 0 + 1 := by omega
                rw [this]
              · rw [if_neg hxx, if_neg hxx]
            refine ⟨rfl, a', _, s', k', hT, fun a ha => ?_⟩
            unfold cntA
            refine Nat.le_trans (List.length_filter_le _ _) (by simp)
      · refine (rdo_actor4 h rfl (isA_not ha)).mono fun x w' => DoP.no h hr ?_
        simp [switchR, isA_not ha]
    | cnt u d => exact (rdo_type4 h rfl (kd := 1) (by decide)).mono fun x w' => DoP.no h hr rfl
    | set c es => exact (rdo_type4 h rfl (kd := 2) (by decide)).mono fun x w' => DoP.no h hr rfl
    | rgs n x t => exact (rdo_type4 h rfl (kd := 4) (by decide)).mono fun x w' => DoP.no h hr rfl
  · rw [doV5]
    cases v using Vl.el with
    | rgs n y t =>
      by_cases ha : isA a = true
      · obtain ⟨i, rfl, hi, hx⟩ := isA_i ha
        obtain ⟨⟨h0, h1, h2⟩, -⟩ := iv.gt
        have e0 : ts = [] := hr
        by_cases hn : bs.length > 59
        · refine (rdo_long h rfl hi rfl q.rd q.len q.ok hn).mono fun x w' => DoP.no h hr ?_
          simp [writeR, ha, hn]
        · by_cases hf : n = 16777215
          · refine (rdo_stamp h rfl hi rfl q.rd q.len q.ok hn (by show n ≥ 16777215; omega)).mono fun x w' => DoP.no h hr ?_
            simp [writeR, ha, hn, hf]
          · refine (rdo_write h rfl hi rfl q.rd q.len q.ok hO hn h0.1 (by show ¬ n ≥ 16777215; omega)).mono ?_
            rintro x w' ⟨rfl, a', s', k'⟩
            have e : writeR (.rgs n y t) i bs = (0, .rgs (n + 1) (i : Int) (strB bs)) := by simp [writeR, ha, hn, hf]
            rw [e]
            exact ⟨rfl, a', ts, s', k', hr⟩
      · refine (rdo_actor5 h rfl (isA_not ha)).mono fun x w' => DoP.no h hr ?_
        simp [writeR, isA_not ha]
    | cnt u d => exact (rdo_type5 h rfl (kd := 1) (by decide)).mono fun x w' => DoP.no h hr rfl
    | set c es => exact (rdo_type5 h rfl (kd := 2) (by decide)).mono fun x w' => DoP.no h hr rfl
    | flg c g => exact (rdo_type5 h rfl (kd := 3) (by decide)).mono fun x w' => DoP.no h hr rfl
end Go.Proofs.YtdbeeikjngnnnaaGreat.ty
