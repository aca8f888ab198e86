import PyProof.Rows.All
import Wide.All
import OpenK.AllK
import Wide.FinOn
import HandS.ForMost
import HandS.Wide
import HandS.IsInst
import HandS.ReplaceLit
import HandS.Codes
import HandS.ReplaceDef
import HandS.Base
import HandS.Comp
import HandS.HotCalls
import KE.KExcIs
import HandS.Exc
import HandS.ExcOwn
import HandS.ExcField
import HandS.ExcIs
import HandS.ExcInit
import HandS.ExcCtx
import HandS.Words
import HandS.Dict
import HandS.More
import HandS.WrittenGet
import HandS.Style
import HandS.WordsExc
import HandS.Defaults
import HandS.Star
import KE.KStar
import HandS.FStr
import PyProof.InstEq
import KE.KOpsOwn
import HandS.Call
import HandS.List
import HandS.OwnEq
import HandS.IterVal
import HandS.Zip
import KE.GoesEnum
import KE.KOwnIter
import HandS.TupSets
import HandS.SetKeys
import KE.SortData
import PyProof.FString5
import HandS.Property
import HandS.DictComp
import OpenK.KOps
import PyProof.Rows.SetFrom
import HandS.Deep
import HandS.Set
import HandS.SetFor
import HandS.SetBool
import KE.KStateDown
import HandS.Head0
import HandS.Head1
import HandS.Head2
import HandS.HeadEnd
import HandS.HeadHook1
import HandS.HeadHook2
import PySem.Challenge.RW_tworooms_k04_parts_cover_a_set
set_option Elab.async false
set_option linter.all false
set_option maxRecDepth 100000
set_option maxHeartbeats 4000000
namespace K01
open PySem PySem.Spec PyProof.Rows L2
def topS (i : Nat) : Stmt := PySem.Challenge.pw_tworooms_k04_parts_cover_a_set.main.body.getD i (.Pass ⟨0, 0, 0, 0⟩)
/-- built-ins that the top leaves as they are -/
structure Bi (mg : Str → Option Value) : Prop where
  len : mg "len" = none
  range : mg "range" = none
  abs : mg "abs" = none
  ord : mg "ord" = none
  min : mg "min" = none
  max : mg "max" = none
  all : mg "all" = none
  isinstance : mg "isinstance" = none
  int_ : mg "int" = none
  str_ : mg "str" = none
  bool_ : mg "bool" = none
  list_ : mg "list" = none
  tuple_ : mg "tuple" = none
  dict_ : mg "dict" = none
/-- a def of the top -/
structure Dn (K : PySem.W.Frag) (mg : Str → Option Value) (x : Str) (st : Stmt) (ps : List Str) (f : Addr) (fd : FuncData) : Prop where
  F : Fun K x x st f fd
  g : mg x = some (.ref f)
  b : Binds K fd ps []
/-! ### readings that simp can take -/
theorem callR_mono {X : Cx} {f : Value} {r r' : List V → Hp → VK → Prop} (h : CallR X f r) (k : ∀ xs H Q, r' xs H Q → r xs H Q) : CallR X f r' :=
  fun pins s σ H xs us Q I rv q => h pins s σ H xs us Q I rv (k _ _ _ q)
theorem r_seq {t u : TS} {D : Ends} {σ : L2.St} {H : Hp} (h : t { D with nx := u D } σ H) : tSeq t u D σ H := h
theorem r_cut {t u : TS} {D : Ends} {σ : L2.St} {H : Hp} (M : L2.St → Hp → Prop) (h1 : ∀ N : L2.St → Hp → Prop, (∀ σ H, M σ H → N σ H) → t { D with nx := N } σ H) (h2 : ∀ σ' H', M σ' H' → u D σ' H') : C8.tCut t u D σ H := ⟨M, h1 M (fun _ _ h => h), h2⟩
/-! ### loops and comprehensions, folded -/
def LoopR (lo : Int) (n : Nat) (g : TG) (tb : TS) (D : Ends) (σ : L2.St) (H : Hp) : Prop := ∃ W : Nat → Nat → L2.St → Hp → Prop, (∃ m, W 0 m σ H) ∧ ∀ i m σ H, W i m σ H →
  ((Itr lo n).stop i H ∧ D.nx σ H) ∨ ((Itr lo n).go i H ∧ ∃ N : L2.St → Hp → Prop, (∀ σ' H', N σ' H' → ∃ m', m' < m ∧ W (i + 1) m' σ' H') ∧ ∀ x H', (Itr lo n).yld i H x H' → g x σ H' fun σ2 H2 => tb { D with nx := N, ct := N, bk := D.nx } σ2 H2)
def LoopL (K : PySem.W.Frag) (a : Addr) (g : TG) (tb : TS) (D : Ends) (σ : L2.St) (H : Hp) : Prop := ∃ W : Nat → Nat → L2.St → Hp → Prop, (∃ m, W 0 m σ H) ∧ ∀ i m σ H, W i m σ H →
  ((Itl K a).stop i H ∧ D.nx σ H) ∨ ((Itl K a).go i H ∧ ∃ N : L2.St → Hp → Prop, (∀ σ' H', N σ' H' → ∃ m', m' < m ∧ W (i + 1) m' σ' H') ∧ ∀ x H', (Itl K a).yld i H x H' → g x σ H' fun σ2 H2 => tb { D with nx := N, ct := N, bk := D.nx } σ2 H2)
def LoopS (z : Str) (g : TG) (tb : TS) (D : Ends) (σ : L2.St) (H : Hp) : Prop := ∃ W : Nat → Nat → L2.St → Hp → Prop, (∃ m, W 0 m σ H) ∧ ∀ i m σ H, W i m σ H →
  ((Its z).stop i H ∧ D.nx σ H) ∨ ((Its z).go i H ∧ ∃ N : L2.St → Hp → Prop, (∀ σ' H', N σ' H' → ∃ m', m' < m ∧ W (i + 1) m' σ' H') ∧ ∀ x H', (Its z).yld i H x H' → g x σ H' fun σ2 H2 => tb { D with nx := N, ct := N, bk := D.nx } σ2 H2)
theorem forR_eq {ta : TA} {g : TG} {tb : TS} {D : Ends} {σ : L2.St} {H : Hp} : tFor (iRng1 ta) g tb D σ H = ta σ H (fun vs H1 => ∃ j : Int, vs = [V.int j] ∧ -(2 ^ 62) ≤ j ∧ j < 2 ^ 62 ∧ LoopR 0 j.toNat g tb D σ H1) := rfl
theorem forR2_eq {ta : TA} {g : TG} {tb : TS} {D : Ends} {σ : L2.St} {H : Hp} : tFor (iRng2 ta) g tb D σ H = ta σ H (fun vs H1 => ∃ i j : Int, vs = [V.int i, V.int j] ∧ (-(2 ^ 62) ≤ i ∧ i < 2 ^ 62 ∧ -(2 ^ 62) ≤ j ∧ j < 2 ^ 62) ∧ LoopR i (j - i).toNat g tb D σ H1) := rfl
theorem forS_eq {te : TE} {g : TG} {tb : TS} {D : Ends} {σ : L2.St} {H : Hp} : tFor (iStr te) g tb D σ H = te σ H (fun v H1 => ∃ z, v = V.str z ∧ LoopS z g tb D σ H1) := rfl
theorem forL_eq {K : PySem.W.Frag} {te : TE} {g : TG} {tb : TS} {D : Ends} {σ : L2.St} {H : Hp} : tFor (iList K te) g tb D σ H = te σ H (fun v H1 => ∃ a, v = V.ref a ∧ ∃ xs, SqL K H1 a xs ∧ LoopL K a g tb D σ H1) := by
  show te σ H _ = te σ H _
  congr 1
  funext v H1
  refine propext ⟨fun ⟨a, e, ⟨xs, h⟩, q⟩ => ⟨a, e, xs, h, q⟩, fun ⟨a, e, xs, h, q⟩ => ⟨a, e, ⟨xs, h⟩, q⟩⟩
theorem r_range {lo : Int} {n : Nat} {g : TG} {tb : TS} {D : Ends} {σ : L2.St} {H : Hp} (Pv : Nat → L2.St → Hp → Prop) (h0 : Pv 0 σ H)
    (hs : ∀ i σ H, i < n → Pv i σ H → ∀ N : L2.St → Hp → Prop, (∀ σ H, Pv (i + 1) σ H → N σ H) → g (.int (lo + i)) σ H fun σ2 H2 => tb { D with nx := N, ct := N, bk := D.nx } σ2 H2) (hd : ∀ σ H, Pv n σ H → D.nx σ H) : LoopR lo n g tb D σ H :=
  for_range Pv h0 (fun i σ H hi hp => hs i σ H hi hp _ (fun _ _ h => h)) hd
theorem r_list {K : PySem.W.Frag} {a : Addr} (xs : List V) {g : TG} {tb : TS} {D : Ends} {σ : L2.St} {H : Hp} (Pv : Nat → L2.St → Hp → Prop) (h0 : Pv 0 σ H) (hl : ∀ i σ H, i ≤ xs.length → Pv i σ H → SqL K H a xs)
    (hs : ∀ i x σ H, xs[i]? = some x → Pv i σ H → ∀ N : L2.St → Hp → Prop, (∀ σ H, Pv (i + 1) σ H → N σ H) → g x σ H fun σ2 H2 => tb { D with nx := N, ct := N, bk := D.nx } σ2 H2) (hd : ∀ σ H, Pv xs.length σ H → D.nx σ H) : LoopL K a g tb D σ H :=
  for_list Pv h0 hl (fun i x σ H hi hp => hs i x σ H hi hp _ (fun _ _ h => h)) hd
theorem r_str (z : Str) {g : TG} {tb : TS} {D : Ends} {σ : L2.St} {H : Hp} (Pv : Nat → L2.St → Hp → Prop) (h0 : Pv 0 σ H)
    (hs : ∀ i c σ H, z.cps.toList[i]? = some c → Pv i σ H → ∀ N : L2.St → Hp → Prop, (∀ σ H, Pv (i + 1) σ H → N σ H) → g (.str ⟨#[c]⟩) σ H fun σ2 H2 => tb { D with nx := N, ct := N, bk := D.nx } σ2 H2) (hd : ∀ σ H, Pv z.cps.toList.length σ H → D.nx σ H) : LoopS z g tb D σ H := by
  refine ⟨fun i m σ H => m = z.cps.toList.length - i ∧ i ≤ z.cps.toList.length ∧ Pv i σ H, ⟨_, rfl, Nat.zero_le _, h0⟩, ?_⟩
  rintro i m σ H ⟨rfl, hi, p⟩
  have el : z.cps.toList.length = z.cps.size := Array.length_toList
  by_cases hlt : i < z.cps.toList.length
  · refine .inr ⟨by rw [el] at hlt; exact hlt, Pv (i + 1), fun σ' H' p' => ⟨z.cps.toList.length - (i + 1), by omega, rfl, hlt, p'⟩, fun x H' y => ?_⟩
    obtain ⟨e, c, hc, ex⟩ := y
    subst e ex
    refine hs i c σ _ ?_ p _ fun _ _ h => h
    rw [Array.getElem?_toList]
    exact hc
  · have e : i = z.cps.toList.length := by omega
    subst e
    exact .inl ⟨by show z.cps.size ≤ z.cps.toList.length; omega, hd σ H p⟩
def LcL (K : PySem.W.Frag) (a : Addr) (g : TG) (te : TE) (vs : List Nat) (σ : L2.St) (H1 : Hp) (D : Addr) (Q : Hp → Prop) : Prop := ∃ W : Nat → Nat → Hp → Prop, (∃ m, W 0 m (upd H1 D (.lst []))) ∧ ∀ i m H, W i m H →
  ((Itl K a).stop i H ∧ Q H) ∨ ((Itl K a).go i H ∧ ∃ Nx : Hp → Prop, (∀ H', Nx H' → ∃ m', m' < m ∧ W (i + 1) m' H') ∧ ∀ x H', (Itl K a).yld i H x H' → g x (wipe σ vs) H' fun σ2 H2 => wipe σ2 vs = wipe σ vs ∧ tYes σ2 H2 fun b H3 =>
    if b = true then te σ2 H3 fun y H4 => ∃ acc, H4 D = some (.lst acc) ∧ acc.length < sizeLine ∧ Nx (upd H4 D (.lst (acc ++ [y]))) else Nx H3)
def LcR (lo : Int) (n : Nat) (g : TG) (te : TE) (vs : List Nat) (σ : L2.St) (H1 : Hp) (D : Addr) (Q : Hp → Prop) : Prop := ∃ W : Nat → Nat → Hp → Prop, (∃ m, W 0 m (upd H1 D (.lst []))) ∧ ∀ i m H, W i m H →
  ((Itr lo n).stop i H ∧ Q H) ∨ ((Itr lo n).go i H ∧ ∃ Nx : Hp → Prop, (∀ H', Nx H' → ∃ m', m' < m ∧ W (i + 1) m' H') ∧ ∀ x H', (Itr lo n).yld i H x H' → g x (wipe σ vs) H' fun σ2 H2 => wipe σ2 vs = wipe σ vs ∧ tYes σ2 H2 fun b H3 =>
    if b = true then te σ2 H3 fun y H4 => ∃ acc, H4 D = some (.lst acc) ∧ acc.length < sizeLine ∧ Nx (upd H4 D (.lst (acc ++ [y]))) else Nx H3)
def LcS (z : Str) (g : TG) (te : TE) (vs : List Nat) (σ : L2.St) (H1 : Hp) (D : Addr) (Q : Hp → Prop) : Prop := ∃ W : Nat → Nat → Hp → Prop, (∃ m, W 0 m (upd H1 D (.lst []))) ∧ ∀ i m H, W i m H →
  ((Its z).stop i H ∧ Q H) ∨ ((Its z).go i H ∧ ∃ Nx : Hp → Prop, (∀ H', Nx H' → ∃ m', m' < m ∧ W (i + 1) m' H') ∧ ∀ x H', (Its z).yld i H x H' → g x (wipe σ vs) H' fun σ2 H2 => wipe σ2 vs = wipe σ vs ∧ tYes σ2 H2 fun b H3 =>
    if b = true then te σ2 H3 fun y H4 => ∃ acc, H4 D = some (.lst acc) ∧ acc.length < sizeLine ∧ Nx (upd H4 D (.lst (acc ++ [y]))) else Nx H3)
theorem lcL_eq {K : PySem.W.Frag} {tl te : TE} {g : TG} {vs : List Nat} {σ : L2.St} {H : Hp} {Q : VK} : tLc (iList K tl) g tYes te vs σ H Q = tl σ H (fun v H1 => ∃ a, v = V.ref a ∧ ∃ xs, SqL K H1 a xs ∧ ∀ D, H1 D = none → LcL K a g te vs σ H1 D (Q (.ref D))) := by
  show tl σ H _ = tl σ H _
  congr 1
  funext v H1
  exact propext ⟨fun ⟨a, e, ⟨xs, h⟩, q⟩ => ⟨a, e, xs, h, q⟩, fun ⟨a, e, xs, h, q⟩ => ⟨a, e, ⟨xs, h⟩, q⟩⟩
theorem lcR_eq {ta : TA} {te : TE} {g : TG} {vs : List Nat} {σ : L2.St} {H : Hp} {Q : VK} : tLc (iRng1 ta) g tYes te vs σ H Q = ta σ H (fun vs' H1 => ∃ j : Int, vs' = [V.int j] ∧ -(2 ^ 62) ≤ j ∧ j < 2 ^ 62 ∧ ∀ D, H1 D = none → LcR 0 j.toNat g te vs σ H1 D (Q (.ref D))) := rfl
theorem lcS_eq {tl te : TE} {g : TG} {vs : List Nat} {σ : L2.St} {H : Hp} {Q : VK} : tLc (iStr tl) g tYes te vs σ H Q = tl σ H (fun v H1 => ∃ z, v = V.str z ∧ ∀ D, H1 D = none → LcS z g te vs σ H1 D (Q (.ref D))) := rfl
/-- a comprehension without a test; N: what is behind a turn -/
theorem r_lcL {K : PySem.W.Frag} {a : Addr} (xs : List V) {j : Nat} {te : TE} {vs : List Nat} {σ : L2.St} {H1 : Hp} {D : Addr} {Qd : Hp → Prop} (Pv : Nat → Hp → Prop) (hw : ∀ x, wipe ((wipe σ vs).set j (some x)) vs = wipe σ vs)
    (h0 : Pv 0 (upd H1 D (.lst []))) (hl : ∀ i H, i ≤ xs.length → Pv i H → SqL K H a xs)
    (hs : ∀ i x H, xs[i]? = some x → Pv i H → ∀ N : VK, (∀ y H4 acc, H4 D = some (.lst acc) → acc.length < sizeLine → Pv (i + 1) (upd H4 D (.lst (acc ++ [y]))) → N y H4) → te ((wipe σ vs).set j (some x)) H N) (hd : ∀ H, Pv xs.length H → Qd H) : LcL K a (gName j) te vs σ H1 D Qd :=
  lc_list (g := gName j) (tt := tYes) Pv h0 hl (fun i x H hx hp => ⟨hw x, by
    simp only [tYes, if_pos]
    exact hs i x H hx hp _ fun y H4 acc h1 h2 h3 => ⟨acc, h1, h2, h3⟩⟩) hd
theorem r_lcR {lo : Int} {n : Nat} {j : Nat} {te : TE} {vs : List Nat} {σ : L2.St} {H1 : Hp} {D : Addr} {Qd : Hp → Prop} (Pv : Nat → Hp → Prop) (hw : ∀ x, wipe ((wipe σ vs).set j (some x)) vs = wipe σ vs)
    (h0 : Pv 0 (upd H1 D (.lst [])))
    (hs : ∀ i H, i < n → Pv i H → ∀ N : VK, (∀ y H4 acc, H4 D = some (.lst acc) → acc.length < sizeLine → Pv (i + 1) (upd H4 D (.lst (acc ++ [y]))) → N y H4) → te ((wipe σ vs).set j (some (.int (lo + i)))) H N) (hd : ∀ H, Pv n H → Qd H) : LcR lo n (gName j) te vs σ H1 D Qd :=
  lc_range (g := gName j) (tt := tYes) Pv h0 (fun i H hi hp => ⟨hw _, by
    simp only [tYes, if_pos]
    exact hs i H hi hp _ fun y H4 acc h1 h2 h3 => ⟨acc, h1, h2, h3⟩⟩) hd
theorem r_lcS (z : Str) {j : Nat} {te : TE} {vs : List Nat} {σ : L2.St} {H1 : Hp} {D : Addr} {Qd : Hp → Prop} (Pv : Nat → Hp → Prop) (hw : ∀ x, wipe ((wipe σ vs).set j (some x)) vs = wipe σ vs)
    (h0 : Pv 0 (upd H1 D (.lst [])))
    (hs : ∀ i c H, z.cps.toList[i]? = some c → Pv i H → ∀ N : VK, (∀ y H4 acc, H4 D = some (.lst acc) → acc.length < sizeLine → Pv (i + 1) (upd H4 D (.lst (acc ++ [y]))) → N y H4) → te ((wipe σ vs).set j (some (.str ⟨#[c]⟩))) H N) (hd : ∀ H, Pv z.cps.toList.length H → Qd H) : LcS z (gName j) te vs σ H1 D Qd := by
  refine ⟨fun i m H => m = z.cps.toList.length - i ∧ i ≤ z.cps.toList.length ∧ Pv i H, ⟨_, rfl, Nat.zero_le _, h0⟩, ?_⟩
  rintro i m H ⟨rfl, hi, p⟩
  have el : z.cps.toList.length = z.cps.size := Array.length_toList
  by_cases hlt : i < z.cps.toList.length
  · refine .inr ⟨by rw [el] at hlt; exact hlt, Pv (i + 1), fun H' p' => ⟨z.cps.toList.length - (i + 1), by omega, rfl, hlt, p'⟩, fun x H' y => ?_⟩
    obtain ⟨e, c, hc, ex⟩ := y
    subst e ex
    refine ⟨hw _, ?_⟩
    simp only [tYes, if_pos]
    exact hs i c _ (by rw [Array.getElem?_toList]; exact hc) p _ fun y H4 acc h1 h2 h3 => ⟨acc, h1, h2, h3⟩
  · have e : i = z.cps.toList.length := by omega
    subst e
    exact .inl ⟨by show z.cps.size ≤ z.cps.toList.length; omega, hd H p⟩
/-! ### built-ins, by named readings -/
def rLenX (K : PySem.W.Frag) (xs : List V) (H : Hp) (Q : VK) : Prop := ∃ p, xs = [V.ref p] ∧ ∃ ys, (SqL K H p ys ∨ SqT K H p ys) ∧ Q (.int ys.length) H
theorem call_lenX {X : Cx} : CallR X (.builtin "len") (rLenX X.K) := callR_mono call_len_seq fun xs H Q ⟨p, e, ys, h, q⟩ => ⟨p, ys, e, h, q⟩
def rLenS (xs : List V) (H : Hp) (Q : VK) : Prop := ∃ z, xs = [V.str z] ∧ z.length ≤ sizeLine ∧ Q (.int z.length) H
theorem call_lenS {X : Cx} : CallR X (.builtin "len") rLenS := callR_mono call_len_str fun xs H Q h => h
def rIntI (xs : List V) (H : Hp) (Q : VK) : Prop := ∃ i, xs = [V.int i] ∧ Q (.int i) H
theorem call_intI {X : Cx} : CallR X (.type "int") rIntI := callR_mono call_int1 fun _ _ _ h => .inl h
def rIntB (xs : List V) (H : Hp) (Q : VK) : Prop := ∃ k, xs = [V.bl k] ∧ Q (.int (if k = true then 1 else 0)) H
theorem call_intB {X : Cx} : CallR X (.type "int") rIntB := callR_mono call_int1 fun _ _ _ h => .inr h
def rIntS (xs : List V) (H : Hp) (Q : VK) : Prop := ∃ z, xs = [V.str z] ∧ ∃ n, PySem.intText? z = some n ∧ z.length ≤ 640 ∧ Q (.int n) H
theorem call_intS {X : Cx} : CallR X (.type "int") rIntS := callR_mono call_int_str fun _ _ _ ⟨z, e, n, h1, h2, q⟩ => ⟨z, n, e, h1, h2, q⟩
def rStrI (xs : List V) (H : Hp) (Q : VK) : Prop := ∃ i, xs = [V.int i] ∧ i.natAbs.log2 < 1920 ∧ Q (.str (toString i)) H
theorem call_strI {X : Cx} : CallR X (.type "str") rStrI := callR_mono call_str_int fun _ _ _ h => h
def rAbs (xs : List V) (H : Hp) (Q : VK) : Prop := ∃ i, xs = [V.int i] ∧ Q (.int (if i < 0 then -i else i)) H
theorem call_absI {X : Cx} : CallR X (.builtin "abs") rAbs := callR_mono call_abs fun _ _ _ h => h
def rOrd (xs : List V) (H : Hp) (Q : VK) : Prop := ∃ c : Nat, xs = [V.str ⟨#[c]⟩] ∧ Q (.int c) H
theorem call_ordI {X : Cx} : CallR X (.builtin "ord") rOrd := callR_mono call_ord fun _ _ _ ⟨c, e, q⟩ => ⟨_, e, rfl, q⟩
def rMin (xs : List V) (H : Hp) (Q : VK) : Prop := ∃ i j, xs = [V.int i, V.int j] ∧ Q (.int (if j < i then j else i)) H
theorem call_minI {X : Cx} (hc : X.calm = true) : CallR X (.builtin "min") rMin := callR_mono (call_min2 hc) fun _ _ _ h => h
def rMax (xs : List V) (H : Hp) (Q : VK) : Prop := ∃ i j, xs = [V.int i, V.int j] ∧ Q (.int (if j > i then j else i)) H
theorem call_maxI {X : Cx} (hc : X.calm = true) : CallR X (.builtin "max") rMax := callR_mono (call_max2 hc) fun _ _ _ h => h
def rSplit (x : V) (xs : List V) (H : Hp) (Q : VK) : Prop := ∃ a, x = .str a ∧ ∃ b, xs = [V.str b] ∧ (b.length == 0) = false ∧ a.length + 2 ≤ sizeLine ∧ ∀ p, H p = none → Q (.ref p) (L2.upd H p (.lst ((Txt.split a b).map V.str)))
def rJoin (K : PySem.W.Frag) (x : V) (xs : List V) (H : Hp) (Q : VK) : Prop := ∃ a, x = .str a ∧ ∃ p, xs = [V.ref p] ∧ ∃ ys : List Str, SqL K H p (ys.map V.str) ∧ (ys.map (·.length)).sum + ys.length * a.length ≤ 16777216 ∧ Q (.str (Txt.join a ys)) H
theorem mtR_mono {X : Cx} {id : String} {r r' : V → List V → Hp → VK → Prop} (h : MtR X id r) (k : ∀ x xs H Q, r' x xs H Q → r x xs H Q) : MtR X id r' :=
  fun pins s σ H x xs v us Q I rx rv q => h pins s σ H x xs v us Q I rx rv (k _ _ _ _ q)
def rSplitN (x : V) (xs : List V) (H : Hp) (Q : VK) : Prop := ∃ a, x = .str a ∧ ∃ b, xs = [V.str b] ∧ (b.length == 0) = false ∧ a.length + 2 ≤ sizeLine ∧ ∀ p, H p = none → Q (.ref p) (L2.upd H p (.lst ((Txt.split a b).map V.str)))
theorem mt_splitN {X : Cx} : MtR X "str.split" rSplitN := mtR_mono mt_split fun _ _ _ _ ⟨a, e, b, e2, h, h2, q⟩ => ⟨a, b, e, e2, h, h2, q⟩
def rJoinN (K : PySem.W.Frag) (x : V) (xs : List V) (H : Hp) (Q : VK) : Prop := ∃ a, x = .str a ∧ ∃ p, xs = [V.ref p] ∧ ∃ ys : List Str, SqL K H p (ys.map V.str) ∧ (ys.map (·.length)).sum + ys.length * a.length ≤ 16777216 ∧ Q (.str (Txt.join a ys)) H
theorem mt_joinN {X : Cx} : MtR X "str.join" (rJoinN X.K) := mtR_mono mt_join fun _ _ _ _ ⟨a, e, p, e2, ys, h, h2, q⟩ => ⟨a, p, ys, e, e2, .inl h, h2, q⟩
/-- an item of a list or a tuple -/
def rIxX (K : PySem.W.Frag) : R2 := fun x y H Q => ∃ p i, x = .ref p ∧ y = .int i ∧ ∃ xs, (SqL K H p xs ∨ SqT K H p xs) ∧ ∃ v, atI xs i = some v ∧ Q v H
theorem ix_sx {X : Cx} : IxR X (rIxX X.K) := by
  intro value slice pins s σ H x y v u Q I rx ry h hs
  obtain ⟨p, i, e1, e2, xs, hq | hq, z, he, q⟩ := h
  · exact ix_list value slice pins s σ H x y v u Q I rx ry ⟨p, xs, i, z, e1, e2, hq, he, q⟩ hs
  · exact ix_tup value slice pins s σ H x y v u Q I rx ry ⟨p, xs, i, z, e1, e2, hq, he, q⟩ hs
/-! ### the same rules with the written part named -/
theorem ix_listK {X : Cx} {K : PySem.W.Frag} (h : X.K = K := by rfl) : IxR X (rIxL K) := h ▸ ix_list
theorem ix_tupK {X : Cx} {K : PySem.W.Frag} (h : X.K = K := by rfl) : IxR X (rIxT K) := h ▸ ix_tup
theorem ix_sxK {X : Cx} {K : PySem.W.Frag} (h : X.K = K := by rfl) : IxR X (rIxX K) := h ▸ ix_sx
theorem sl_listK {X : Cx} {K : PySem.W.Frag} (h : X.K = K := by rfl) : SlR X (rSlL K) := h ▸ sl_list
theorem call_lenXK {X : Cx} {K : PySem.W.Frag} (h : X.K = K := by rfl) : CallR X (.builtin "len") (rLenX K) := h ▸ call_lenX
theorem mt_joinK {X : Cx} {K : PySem.W.Frag} (h : X.K = K := by rfl) : MtR X "str.join" (rJoinN K) := h ▸ mt_joinN
theorem pi_listK {X : Cx} {K : PySem.W.Frag} {tg l : Expr} {tl : TE} (hl : PE X l tl) (h : X.K = K := by rfl) : PI X tg l (iList K tl) := h ▸ pi_list hl
theorem atI_get {α : Type} {xs : List α} {i : Int} (h0 : 0 ≤ i) (h : i.toNat < xs.length) : ∃ z, atI xs i = some z ∧ xs[i.toNat]? = some z := by
  have e : i = (i.toNat : Int) := by omega
  have g := List.getElem?_eq_getElem h
  exact ⟨_, (congrArg (atI xs) e).trans (atI_nat g), g⟩
theorem atI_map {ns : List Int} {i : Int} (h0 : 0 ≤ i) (h : i.toNat < ns.length) : ∃ z, atI (ns.map V.int) i = some (.int z) := by
  obtain ⟨z, e1, e2⟩ := atI_get (xs := ns.map V.int) h0 (by rw [List.length_map]; exact h)
  rw [List.getElem?_map] at e2
  cases e : ns[i.toNat]? with
  | none =>
    rw [e] at e2
    cases e2
  | some y =>
    rw [e] at e2
    cases e2
    exact ⟨y, e1⟩
theorem map_get {α β : Type} {f : α → β} {xs : List α} {i : Nat} {y : β} (h : (xs.map f)[i]? = some y) : ∃ x, xs[i]? = some x ∧ y = f x := by
  rw [List.getElem?_map] at h
  cases e : xs[i]? with
  | none => rw [e] at h; cases h
  | some x => rw [e] at h; exact ⟨x, rfl, (Option.some.inj h).symm⟩
theorem take_map {α β : Type} {f : α → β} {xs : List α} {i : Nat} {x : α} (h : xs[i]? = some x) : (xs.take i).map f ++ [f x] = (xs.take (i + 1)).map f := by
  rw [List.take_add_one, h, List.map_append]
  rfl
theorem lt_of_get {α : Type} {xs : List α} {i : Nat} {x : α} (h : xs[i]? = some x) : i < xs.length := (List.getElem?_eq_some_iff.mp h).1
theorem start1 {N : List Str} {vs : List V} : L2.start N vs = vs.map some ++ List.replicate (N.length - vs.length) none := rfl
theorem sq_of {K : PySem.W.Frag} {H : Hp} {a : Addr} {xs : List V} (h : H a = some (.lst xs)) : SqL K H a xs := .inl (.inl h)
/-- all that was tracked stands, but what is at a -/
def But (a : Addr) (H H' : Hp) : Prop := ∀ b o, b ≠ a → H b = some o → H' b = some o
theorem But.refl (a : Addr) (H : Hp) : But a H H := fun _ _ _ h => h
theorem But.trans {a : Addr} {H H1 H2 : Hp} (p : But a H H1) (q : But a H1 H2) : But a H H2 := fun b o n h => q b o n (p b o n h)
theorem But.updA {a : Addr} {H : Hp} {o : HO} : But a H (L2.upd H a o) := fun b x n h => by rw [upd_ne n]; exact h
theorem But.new {a p : Addr} {H : Hp} {o : HO} (h : H p = none) : But a H (upd H p o) := fun b x _ e => by rw [upd_ne (ne_of_none e h)]; exact e
theorem But.of {a : Addr} {H H' : Hp} (h : Same H H') : But a H H' := fun b o _ e => h b o e
theorem Same.new {p : Addr} {H : Hp} {o : HO} (h : H p = none) : Same H (upd H p o) := fun b x e => by rw [upd_ne (ne_of_none e h)]; exact e
theorem But.same {c : Addr} {H H' : Hp} (n : H c = none) (h : But c H H') : Same H H' := fun b o e => h b o (ne_of_none e n) e
theorem But.seq {K : PySem.W.Frag} {c a : Addr} {H H' : Hp} {xs : List V} (h : But c H H') (n : a ≠ c) (S : SqL K H a xs) : SqL K H' a xs := by
  rcases S with (S | ⟨o, S⟩) | S
  · exact .inl (.inl (h _ _ n S))
  · exact .inl (.inr ⟨o, h _ _ n S⟩)
  · exact .inr S
end K01
namespace K01
open PySem PySem.Spec PyProof.Rows L2
def rAllK (K : PySem.W.Frag) (vs : List V) (H : Hp) (Q : VK) : Prop := ∃ a, vs = [V.ref a] ∧ ∃ bs : List Bool, SqL K H a (bs.map V.bl) ∧ Q (.bl (bs.all id)) H
theorem call_allK {X : Cx} {K : PySem.W.Frag} (h : X.K = K := by rfl) (hc : X.calm = true := by rfl) : CallR X (.builtin "all") (rAllK K) := callR_mono (h ▸ cr_all hc) fun _ _ _ ⟨a, e, bs, h1, q⟩ => ⟨a, bs, e, h1, q⟩
theorem opR_mono {X : Cx} {f : Value → Value → Sem Value} {r r' : R2} (h : OpR X f r) (k : ∀ x y H Q, r' x y H Q → r x y H Q) : OpR X f r' := fun pins s σ H x y v u Q I rx ry q => h pins s σ H x y v u Q I rx ry (k _ _ _ _ q)
def rInSg (x y : V) (H : Hp) (Q : VK) : Prop := ∃ c : Nat, x = .str ⟨#[c]⟩ ∧ ∃ z : Str, y = .str z ∧ Q (.bl (decide (c ∈ z.cps.toList))) H
theorem op_inSg {X : Cx} : OpR X (compareOp .In) rInSg := opR_mono op_in_sign fun _ _ _ _ ⟨c, e, z, e2, q⟩ => ⟨c, z, e, e2, q⟩
def rNinSg (x y : V) (H : Hp) (Q : VK) : Prop := ∃ c : Nat, x = .str ⟨#[c]⟩ ∧ ∃ z : Str, y = .str z ∧ Q (.bl (!decide (c ∈ z.cps.toList))) H
theorem op_ninSg {X : Cx} : OpR X (compareOp .NotIn) rNinSg := opR_mono op_notIn_sign fun _ _ _ _ ⟨c, e, z, e2, q⟩ => ⟨c, z, e, e2, q⟩
theorem sgn_inj {a b : Nat} : ((⟨#[a]⟩ : Str) = ⟨#[b]⟩) = (a = b) := propext ⟨fun h => by
  have e := congrArg (fun z : Str => z.cps.toList) h
  simpa using e, fun h => by rw [h]⟩
def rAddS (x y : V) (H : Hp) (Q : VK) : Prop := ∃ i, x = .str i ∧ ∃ j, y = .str j ∧ i.length + j.length ≤ sizeLine ∧ Q (.str (i ++ j)) H
theorem op_addS {X : Cx} : OpR X (binaryOp .Add) rAddS := opR_mono op_add_str fun _ _ _ _ ⟨i, e, j, e2, h, q⟩ => ⟨i, j, e, e2, h, q⟩
def rInSt (x y : V) (H : Hp) (Q : VK) : Prop := ∃ i, x = .str i ∧ ∃ j, y = .str j ∧ Q (.bl (!(Builtin.Str.occurrences j i 0 j.length 1).isEmpty)) H
theorem op_inSt {X : Cx} : OpR X (compareOp .In) rInSt := opR_mono op_in_str fun _ _ _ _ ⟨i, e, j, e2, q⟩ => ⟨i, j, e, e2, q⟩
end K01
namespace K01
open PySem PySem.Spec PyProof.Rows L2
/-! ### where a token is out -/
theorem okT {P : Program} {w : World} {K : PySem.W.Frag} {mg : Str → Option Value} {base : Heap} {x qual : Str} {st : Stmt} {f : Addr} {fd : FuncData} {N ps : List Str} {k : Nat} {sp : Sp} (F : Fun K x qual st f fd) (S : FnScope N ps (defScope st))
    (nc : ∀ y ∈ (defScope st).names, y.2 ≠ .cell) (one : 1 ≤ ps.length) (ln : ∀ vs H Q E, sp vs H Q E → vs.length = ps.length)
    (body : ∀ (cv : Value) (A : Around) (ou : List Env) (s : Shared) (H : Hp) (vs : List V) (Q : VK) (E : XK), Room k (A.deeper (envOfC qual (defScope st) s.heap.objs.size f cv)) → sp vs H Q E →
      ∃ t, PSsT (cxOf CX0 P w K mg base N qual (defScope st) f cv A ou s H E) (defBody st) t ∧ t { nx := fun _ H' => Q .non H', rt := Q } (L2.start N vs) H) : FnOk P w K mg base CX0 (k + 1) f fd ps sp := by
  obtain ⟨oc, od, kV, doc, pm, an, cv, ct, osl, e, lk, hcd⟩ := F.ex
  subst e
  exact fn_ofT lk hcd S nc one ln fun A ou s H vs Q E hr hs => body cv A ou s H vs Q E hr hs
section
variable {X : Cx}
structure PA1 (X : Cx) (es : List Expr) (t : TA) : Prop where
  go : ∀ (ps : Pos) (pn : List (Addr × Obj)) (s : Shared) (σ : L2.St) (H : Hp) (Q : List V → Hp → Prop), Inv X pn σ H s → t σ H Q →
    wpAny (model X.prog X.w) X.A (spliced (backTo ps (starEach es X.env))) (fun us s' => 1 ≤ s'.toks ∧ AP X pn σ Q us s') X.xe s
theorem pa1_int {i : Int} {j : Nat} {ps : Pos} (hs : starEach [.Constant (.int i) j ps] X.env = [(false, eval (.Constant (.int i) j ps) X.env)] := by rfl) : PA1 X [.Constant (.int i) j ps] (tCons (tC (.int i)) tNil) := by
  refine ⟨fun p0 pn s σ H Q J h => ?_⟩
  rw [hs]
  refine Calls.spliced_cons (wpAny_Constant_int (pos := ps) (k := j) ?_)
  refine Calls.spliced_nil ?_
  exact ⟨by show 1 ≤ s.toks + 1; omega, [.int i], H, J.tok _, .cons ⟨_, rfl⟩ .nil, h⟩
theorem pa1_cons {e : Expr} {es : List Expr} {te : TE} {t : TA} (ha : PE X e te) (hr : PA1 X es t) (hs : starEach (e :: es) X.env = (false, eval e X.env) :: starEach es X.env := by rfl) : PA1 X (e :: es) (tCons te t) := by
  refine ⟨fun p0 pn s σ H Q J h => ?_⟩
  rw [hs]
  refine Calls.spliced_cons (thn (ha.run pn s σ H _ J h) fun u s1 g => ?_)
  obtain ⟨x, H1, J1, rx, q⟩ := g
  refine thn (hr.go p0 pn s1 σ H1 _ J1 q) fun us s2 g => ?_
  obtain ⟨ht, xs, H2, J2, r2, q2⟩ := g
  exact ⟨ht, x :: xs, H2, J2, .cons rx r2, q2⟩
structure PS1 (X : Cx) (st : Stmt) (t : TS) : Prop where
  go : ∀ (pn : List (Addr × Obj)) (s : Shared) (σ : L2.St) (H : Hp) (D : Ends), Inv X pn σ H s → t D σ H → wpAny (model X.prog X.w) X.A (exec st X.env) (fun fl s' => 1 ≤ s'.toks ∧ SP X pn D fl s') X.xe s
theorem ps1_call {CX : CXT} {k i : Nat} {f : Addr} {fd : FuncData} {ps : List Str} {sp : Sp} {dvs : List V} {ds : List Value} {E : XK} {x y : Str} {p p2 pos pos2 : Pos} {e : Expr} {es : List Expr} {t : TA}
    (hN : X.N.Nodup) (hi : X.N[i]? = some y) (hy : Loc X.env.scope y) (F : FnOk X.prog X.w X.K X.mg X.base CX k f fd ps sp) (hr : Room k X.A) (hg : Gl X x) (hm : X.mg x = some (.ref f)) (hk : PySem.W.keepIn X.K (.ref f) = true) (hb : Binds X.K fd ps ds) (hd : Vals dvs ds) (hx : Passes CX X E)
    (ha : PA1 X (e :: es) t) (hdb : (x == ("__debug__" : Str)) = false := by decide) (he : starEach (e :: es) X.env = (false, eval e X.env) :: starEach es X.env := by rfl) (hpl : (backTo pos (starEach es X.env)).any (·.1) = false := by rfl)
    (hs : swapsWith (.Call (.Name x p) (e :: es) [] pos) (some (.Name y p2)) pos2.line X.env = pure false := by rfl) (hf : X.fn y = true ∨ X.env.scope.names.lookup y = some .local := by first | exact .inl rfl | exact .inr rfl | assumption) :
    PS1 X (.Assign [.Name y p2] (.Call (.Name x p) (e :: es) [] pos) pos2) (tAsg (tCall sp dvs E t) (gName i)) := by
  refine ⟨fun pn s σ H D J h => ?_⟩
  refine wpAny_Assign_Name (Q := fun fl s' => 1 ≤ s'.toks ∧ SP X pn D fl s') (wpAny_mono (Q := fun v s2 => 1 ≤ s2.toks ∧ EP X pn σ (fun v H1 => D.nx (σ.set i (some v)) H1) v s2) (wpAny_Call_Name_kw (ld_glob J hg hm ?_ hdb)) (fun v s2 g => ?_) fun _ _ z => z) hs
  · refine PySem.W.callWith_K (h₀ := X.base) J.ok.mod.kin hk (thn (ha.go pos pn s σ H _ J h) fun us s1 g => ?_) he hpl
    obtain ⟨ht, vs, H1, J1, r, q⟩ := g
    exact ⟨J1.kIn, wpAny_mono (wpAny_toks_of ht (run_fn F hr hb hd hx J1 r q)) (fun _ _ z => z) fun _ _ z => z.2⟩
  · obtain ⟨ht, v', H1, J1, rv, q⟩ := g
    exact wpAny_mono (wpAny_toks_of ht (store_ok J1 hN hi hy rv (fun s3 J3 => (⟨_, H1, J3, q⟩ : SP X pn D .next s3)) hf)) (fun _ _ z => z) fun _ _ z => z.2
/-- the first statement gives out a token -/
theorem pss_tok {st : Stmt} {rest : List Stmt} {t u : TS} (h1 : PS1 X st t) (h2 : PSsT X rest u) : PSs X (st :: rest) (tSeq t u) := by
  refine ⟨fun pn s σ H D J h => ?_⟩
  refine wpAny_execs_cons (thn (h1.go pn s σ H { D with nx := u D } J h) fun fl s1 g => ?_)
  obtain ⟨ht, g⟩ := g
  cases fl with
  | ret v => exact g
  | brk => exact g
  | cont => exact g
  | next =>
    obtain ⟨σ1, H1, J1, g⟩ := g
    exact h2 pn s1 σ1 H1 D ht J1 g
theorem pst_setE {i : Nat} {x : Str} {e : Expr} {te : TE} {p2 pos : Pos} (hN : X.N.Nodup) (hi : X.N[i]? = some x) (hx : Loc X.env.scope x) (he : PET X e te) (hs : swapsWith e (some (.Name x p2)) pos.line X.env = pure false := by rfl)
    (hf : X.fn x = true ∨ X.env.scope.names.lookup x = some .local := by first | exact .inl rfl | exact .inr rfl | assumption) : PST X (.Assign [.Name x p2] e pos) (tAsg te (gName i)) := by
  intro pn s σ H D h0 J h
  refine wpAny_Assign_Name (thn (he pn s σ H _ h0 J h) fun v s1 g => ?_) hs
  obtain ⟨y, H1, J1, r1, q1⟩ := g
  exact store_ok J1 hN hi hx r1 (fun s2 J2 => ⟨_, H1, J2, q1⟩) hf
/-- a word between an if and what follows, a token out -/
theorem psst_cut {st : Stmt} {rest : List Stmt} {t u : TS} (h1 : PST X st t) (h2 : PSsT X rest u) : PSsT X (st :: rest) (C8.tCut t u) := by
  intro pn s σ H D h0 J h
  obtain ⟨M, hm, hu⟩ := h
  refine wpAny_execs_cons (wpAny_mono (PySem.wpAny_toks (h1 pn s σ H { D with nx := M } h0 J hm)) (fun fl s1 g => ?_) fun _ _ z => z.2)
  obtain ⟨hk, g⟩ := g
  cases fl with
  | ret v => exact g
  | brk => exact g
  | cont => exact g
  | next =>
    obtain ⟨σ1, H1, J1, g⟩ := g
    exact h2 pn s1 σ1 H1 D (Nat.le_trans h0 hk) J1 (hu σ1 H1 g)
end
end K01
namespace K01
open PySem PySem.Spec PyProof.Rows L2
/-! ### texts times numbers, lists times numbers -/
def rMulS (x y : V) (H : Hp) (Q : VK) : Prop := ∃ z, x = .str z ∧ ∃ n, y = .int n ∧ ∃ L N : Nat, z.length ≤ L ∧ n ≤ (N : Int) ∧ 0 ≤ n ∧ N ≤ 16777216 ∧ L * N ≤ 16777216 ∧ Q (.str (Txt.mul z n)) H
theorem op_mulS {X : Cx} : OpR X (binaryOp .Mult) rMulS := by
  intro pn s σ H x y v u Q J rx ry h
  obtain ⟨z, rfl, n, rfl, L, N, h1, h2, h3, h4, h5, q⟩ := h
  obtain ⟨t, rfl⟩ := rx
  obtain ⟨t', rfl⟩ := ry
  exact SB.mul (mulOk_of L N h1 h2 (by omega) h4 h5) fun tt k => ⟨.str (Txt.mul z n), H, J.tok k, ⟨tt, rfl⟩, q⟩
def rRepL (x y : V) (H : Hp) (Q : VK) : Prop := ∃ l, x = .ref l ∧ ∃ k, y = .int k ∧ ∃ xs, H l = some (.lst xs) ∧ -(2 ^ 63) ≤ k ∧ k < 2 ^ 63 ∧ xs.length * k.toNat ≤ sizeLine ∧ ∀ p, H p = none → Q (.ref p) (L2.upd H p (.lst (List.replicate k.toNat xs).flatten))
theorem op_repL {X : Cx} : OpR X (binaryOp .Mult) rRepL := opR_mono op_rep fun _ _ _ _ ⟨l, e, k, e2, xs, h1, h2, h3, h4, q⟩ => ⟨l, k, xs, e, e2, h1, h2, h3, h4, q⟩
def rCatL (x y : V) (H : Hp) (Q : VK) : Prop := ∃ l, x = .ref l ∧ ∃ b, y = .ref b ∧ ∃ xs, H l = some (.lst xs) ∧ ∃ zs, H b = some (.lst zs) ∧ xs.length + zs.length ≤ sizeLine ∧ ∀ p, H p = none → Q (.ref p) (L2.upd H p (.lst (xs ++ zs)))
theorem op_catL {X : Cx} : OpR X (binaryOp .Add) rCatL := opR_mono op_cat fun _ _ _ _ ⟨l, e, b, e2, xs, h1, zs, h2, h3, q⟩ => ⟨l, b, xs, zs, e, e2, h1, h2, h3, q⟩
theorem mul_le {z : Str} {n : Int} {L N : Nat} (h1 : z.length ≤ L) (h2 : n ≤ (N : Int)) : (Txt.mul z n).length ≤ L * N := len_mul_leN h1 h2
end K01
namespace K01
open PySem PySem.Spec PyProof.Rows L2
local macro_rules | `(tactic| walk_at "rd") => `(tactic| simp only [start1, wipe, isR, isBool, isInt, isStr, isLst, isTup, tAsg, gName, gSub, tVar, tC, tOp, tUn, tTest, tIfS, tRet, tRetN, tDrop, tB, tAnd, tOr, tNot, tAndV, tOrV, tNotV, tIf, tCB, tCons, tNil, tNext, tCall, tBM, tTup, tLst, rI0, rI, rEq, rNe, scal, forR_eq, forR2_eq, forS_eq, forL_eq, lcL_eq, lcR_eq, lcS_eq, rLenX, rLenS, rMulS, rRepL, rCatL, tPart, tNoPart, CwR.tReplC, rAllK, rInSg, rNinSg, sgn_inj, rAddS, rInSt, tChain, tM1, tM0, rSplitN, rJoinN, exists_eq, rIntI, rIntB, rIntS, rStrI, rAbs, rOrd, rMin, rMax, rIxL, rIxX, rSetL, rAppend, rIxS, rSlS, rSlL, tSl, List.map_cons, List.map_nil, List.replicate_succ, List.replicate_zero, List.length_cons, List.length_nil, Nat.reduceSub, Nat.reduceAdd, Nat.zero_add, Nat.sub_self, List.getElem?_cons_zero, List.getElem?_cons_succ, List.set_cons_zero, List.set_cons_succ, List.append_nil, List.nil_append, List.cons_append, Option.some.injEq, not_true_eq_false, reduceCtorEq, exists_eq_left', exists_eq_left, exists_eq', exists_and_left, exists_and_right, V.int.injEq, V.str.injEq, V.bl.injEq, V.ref.injEq, List.cons.injEq, and_true, true_and, and_assoc, decide_eq_true_eq, Bool.not_eq_true', decide_eq_false_iff_not, ite_true, ite_false, if_true, if_false, Bool.not_true, Bool.not_false, Bool.false_eq_true, eq_self_iff_true, reduceIte, ne_eq, Int.reduceEq, not_false_eq_true])
local macro_rules | `(tactic| walk_at "rt") => `(tactic| try walk_at "rd")
local macro_rules | `(tactic| walk_at "st") => `(tactic| (walk_at "rt"; refine r_seq ?_; walk_at "rt"))
local macro_rules | `(tactic| walk_at "hp") => `(tactic| first | assumption | exact upd_same | (rw [upd_ne (by assumption)]; walk_at "hp"))
local macro_rules | `(tactic| walk_at "ex1") => `(tactic| ((with_reducible refine Exists.intro ?w (And.intro ?hx ?_)); (case hx => first | exact sq_of (by walk_at "hp") | exact .inl (sq_of (by walk_at "hp")) | exact rfl | (show _ = some (HO.lst _); walk_at "hp"))))
local macro_rules | `(tactic| walk_at "ex") => `(tactic| repeat (first | walk_at "ex1" | walk_at "rd"))
/-! ### data -/
inductive Dat where
  | non | bl (b : Bool) | int (i : Int) | str (s : Str) | lst (l : List Dat) | tup (l : List Dat)
mutual
def At (H : Hp) (A : Addr → Prop) : Dat → V → Prop
  | .non, v => v = .non
  | .bl b, v => v = .bl b
  | .int i, v => v = .int i
  | .str s, v => v = .str s
  | .lst l, v => ∃ a xs, v = .ref a ∧ A a ∧ H a = some (.lst xs) ∧ xs.length ≤ 1000000 ∧ AtL H A l xs
  | .tup l, v => ∃ a xs, v = .ref a ∧ A a ∧ H a = some (.tup xs) ∧ xs.length ≤ 1000000 ∧ AtL H A l xs
def AtL (H : Hp) (A : Addr → Prop) : List Dat → List V → Prop
  | [], xs => xs = []
  | d :: l, xs => ∃ v r, xs = v :: r ∧ At H A d v ∧ AtL H A l r
end
mutual
def Dat.dep : Dat → Nat
  | .lst l => depL l + 1
  | .tup l => depL l + 1
  | _ => 0
def depL : List Dat → Nat
  | [] => 0
  | d :: l => max d.dep (depL l)
end
mutual
def same : Dat → Dat → Bool
  | .non, .non => true
  | .bl a, .bl b => decide (a = b)
  | .int a, .int b => decide (a = b)
  | .str a, .str b => decide (a = b)
  | .lst l, .lst m => sameL l m
  | .tup l, .tup m => sameL l m
  | _, _ => false
def sameL : List Dat → List Dat → Bool
  | [], [] => true
  | d :: l, e :: m => same d e && sameL l m
  | _, _ => false
end
mutual
theorem same_refl : ∀ d : Dat, same d d = true
  | .non => rfl
  | .bl _ => by simp [same]
  | .int _ => by simp [same]
  | .str _ => by simp [same]
  | .lst l => by rw [same]; exact sameL_refl l
  | .tup l => by rw [same]; exact sameL_refl l
theorem sameL_refl : ∀ l : List Dat, sameL l l = true
  | [] => rfl
  | d :: l => by rw [sameL, same_refl d, sameL_refl l]; rfl
end
mutual
theorem At.mono {H H' : Hp} {A A' : Addr → Prop} (hA : ∀ p, A p → A' p) (k : ∀ p o, A p → H p = some o → H' p = some o) : ∀ (d : Dat) (v : V), At H A d v → At H' A' d v
  | .non, _, h => h
  | .bl _, _, h => h
  | .int _, _, h => h
  | .str _, _, h => h
  | .lst l, _, ⟨a, xs, e, ha, hx, hl, hr⟩ => ⟨a, xs, e, hA a ha, k a _ ha hx, hl, AtL.mono hA k l xs hr⟩
  | .tup l, _, ⟨a, xs, e, ha, hx, hl, hr⟩ => ⟨a, xs, e, hA a ha, k a _ ha hx, hl, AtL.mono hA k l xs hr⟩
theorem AtL.mono {H H' : Hp} {A A' : Addr → Prop} (hA : ∀ p, A p → A' p) (k : ∀ p o, A p → H p = some o → H' p = some o) : ∀ (l : List Dat) (xs : List V), AtL H A l xs → AtL H' A' l xs
  | [], _, h => h
  | d :: l, _, ⟨v, r, e, h1, h2⟩ => ⟨v, r, e, At.mono hA k d v h1, AtL.mono hA k l r h2⟩
end
theorem AtL.length {H : Hp} {A : Addr → Prop} : ∀ (l : List Dat) (xs : List V), AtL H A l xs → xs.length = l.length
  | [], _, h => by rw [show _ = [] from h]; rfl
  | d :: l, _, ⟨v, r, e, h1, h2⟩ => by rw [e, List.length_cons, List.length_cons, AtL.length l r h2]
theorem AtL.get {H : Hp} {A : Addr → Prop} : ∀ (l : List Dat) (xs : List V) (i : Nat) (d : Dat), AtL H A l xs → l[i]? = some d → ∃ v, xs[i]? = some v ∧ At H A d v
  | [], _, _, _, _, h => by simp at h
  | d :: l, _, 0, e, ⟨v, r, ex, h1, h2⟩, h => by
    subst ex
    cases h
    exact ⟨v, rfl, h1⟩
  | d :: l, _, i + 1, e, ⟨v, r, ex, h1, h2⟩, h => by
    subst ex
    exact AtL.get l r i e h2 h
theorem AtL.snoc {H : Hp} {A : Addr → Prop} : ∀ (l : List Dat) (xs : List V) (d : Dat) (v : V), AtL H A l xs → At H A d v → AtL H A (l ++ [d]) (xs ++ [v])
  | [], _, d, v, h, h2 => by rw [show _ = [] from h]; exact ⟨v, [], rfl, h2, rfl⟩
  | e :: l, _, d, v, ⟨w, r, ex, h1, h2⟩, h3 => by rw [ex]; exact ⟨w, r ++ [v], rfl, h1, AtL.snoc l r d v h2 h3⟩
theorem dep_get : ∀ (l : List Dat) (i : Nat) (d : Dat), l[i]? = some d → d.dep ≤ depL l
  | [], _, _, h => by simp at h
  | e :: l, 0, d, h => by cases h; rw [depL]; exact Nat.le_max_left _ _
  | e :: l, i + 1, d, h => by rw [depL]; exact Nat.le_trans (dep_get l i d h) (Nat.le_max_right _ _)
/-! ### isinstance of data -/
def isBool : Dat → Bool | .bl _ => true | _ => false
def isInt : Dat → Bool | .bl _ => true | .int _ => true | _ => false
def isStr : Dat → Bool | .str _ => true | _ => false
def isLst : Dat → Bool | .lst _ => true | _ => false
def isTup : Dat → Bool | .tup _ => true | _ => false
def tyOf : Dat → String | .non => "NoneType" | .bl _ => "bool" | .int _ => "int" | .str _ => "str" | .lst _ => "list" | .tup _ => "tuple"
theorem tyx {K : PySem.W.Frag} {H : Hp} {A : Addr → Prop} : ∀ {d : Dat} {v : V}, At H A d v → TyX K H v (.type (tyOf d))
  | .non, _, h => by rw [show _ = V.non from h]; exact .base .non
  | .bl b, _, h => by rw [show _ = V.bl b from h]; exact .base (.bl b)
  | .int b, _, h => by rw [show _ = V.int b from h]; exact .base (.int b)
  | .str b, _, h => by rw [show _ = V.str b from h]; exact .base (.str b)
  | .lst l, _, ⟨a, xs, e, _, hx, _⟩ => by subst e; exact .base (.lst hx)
  | .tup l, _, ⟨a, xs, e, _, hx, _⟩ => by subst e; exact .base (.tup hx)
def isR (T : String) (p : Dat → Bool) : List V → Hp → VK → Prop := fun xs H Q => ∃ x, xs = [x, .ty T] ∧ ∃ A d, At H A d x ∧ Q (.bl (p d)) H
theorem call_is {X : Cx} (T : String) (p : Dat → Bool) (h : ∀ d, kitB (tyOf d) T = some (p d)) : CallR X (.builtin "isinstance") (isR T p) := callR_mono call_isi fun xs H Q ⟨x, e, A, d, ha, q⟩ =>
  ⟨x, .ty T, _, _, p d, e, .ty T, tyx ha, kit_ty (h d), q⟩
theorem call_is_bool {X : Cx} : CallR X (.builtin "isinstance") (isR "bool" isBool) := call_is _ _ fun d => by cases d <;> (simp only [tyOf, isBool]; decide +kernel)
theorem call_is_int {X : Cx} : CallR X (.builtin "isinstance") (isR "int" isInt) := call_is _ _ fun d => by cases d <;> (simp only [tyOf, isInt]; decide +kernel)
theorem call_is_str {X : Cx} : CallR X (.builtin "isinstance") (isR "str" isStr) := call_is _ _ fun d => by cases d <;> (simp only [tyOf, isStr]; decide +kernel)
theorem call_is_dict {X : Cx} : CallR X (.builtin "isinstance") (isR "dict" fun _ => false) := call_is _ _ fun d => by cases d <;> (simp only [tyOf]; decide +kernel)
theorem call_is_list {X : Cx} : CallR X (.builtin "isinstance") (isR "list" isLst) := call_is _ _ fun d => by cases d <;> (simp only [tyOf, isLst]; decide +kernel)
theorem call_is_tuple {X : Cx} : CallR X (.builtin "isinstance") (isR "tuple" isTup) := call_is _ _ fun d => by cases d <;> (simp only [tyOf, isTup]; decide +kernel)
end K01
namespace K01
open PySem PySem.Spec PyProof.Rows L2 TL
/-! ### texts: cutting and joining at one sign -/
theorem pre1 (s c : Nat) (r : List Nat) : pre [s] (c :: r) = (c == s) := by
  show ((c :: r).take 1 == [s]) = (c == s)
  simp
theorem spl_ne (s : Nat) : ∀ (l acc : List Nat), spl [s] 0 acc l ≠ []
  | [], acc => by rw [spl_nil]; simp
  | c :: r, acc => by
    by_cases h : pre [s] (c :: r) = true
    · rw [spl_hit h]; simp
    · rw [spl_miss (by simpa using h)]; exact spl_ne s r _
theorem join_spl (s : Nat) : ∀ (l acc : List Nat), joinL [s] (spl [s] 0 acc l) = acc ++ l
  | [], acc => by rw [spl_nil, List.append_nil]; rfl
  | c :: r, acc => by
    by_cases h : pre [s] (c :: r) = true
    · have e : c = s := by rw [pre1] at h; simpa using h
      rw [spl_hit h]
      have ih := join_spl s r []
      have hne := spl_ne s r []
      show joinL [s] (acc :: spl [s] 0 [] r) = acc ++ c :: r
      cases e2 : spl [s] 0 [] r with
      | nil => exact absurd e2 hne
      | cons q t =>
        rw [e2] at ih
        show acc ++ ([s] ++ joinL [s] (q :: t)) = acc ++ c :: r
        rw [ih, e]
        rfl
    · rw [spl_miss (by simpa using h), join_spl s r, List.append_assoc]
      rfl
theorem spl_free (s : Nat) : ∀ (l acc : List Nat), s ∉ acc → ∀ p ∈ spl [s] 0 acc l, s ∉ p
  | [], acc, h, p, hp => by rw [spl_nil] at hp; rw [List.mem_singleton.mp hp]; exact h
  | c :: r, acc, h, p, hp => by
    by_cases hc : pre [s] (c :: r) = true
    · rw [spl_hit hc] at hp
      rcases List.mem_cons.mp hp with e | hp
      · rw [e]; exact h
      · exact spl_free s r [] (by simp) p hp
    · rw [spl_miss (by simpa using hc)] at hp
      refine spl_free s r _ (fun hm => ?_) p hp
      rcases List.mem_append.mp hm with hm | hm
      · exact h hm
      · rw [pre1] at hc
        exact hc (by rw [List.mem_singleton.mp hm]; simp)
theorem spl_sub (s : Nat) : ∀ (l acc : List Nat) (t : Nat), t ∉ l → t ∉ acc → ∀ p ∈ spl [s] 0 acc l, t ∉ p
  | [], acc, t, _, h, p, hp => by rw [spl_nil] at hp; rw [List.mem_singleton.mp hp]; exact h
  | c :: r, acc, t, hl, h, p, hp => by
    have hr : t ∉ r := fun z => hl (List.mem_cons_of_mem _ z)
    by_cases hc : pre [s] (c :: r) = true
    · rw [spl_hit hc] at hp
      rcases List.mem_cons.mp hp with e | hp
      · rw [e]; exact h
      · exact spl_sub s r [] t hr (by simp) p hp
    · rw [spl_miss (by simpa using hc)] at hp
      refine spl_sub s r _ t hr (fun hm => ?_) p hp
      rcases List.mem_append.mp hm with hm | hm
      · exact h hm
      · exact hl (by rw [List.mem_singleton.mp hm]; exact List.mem_cons_self)
theorem joinL_len (s : Nat) : ∀ (ps : List (List Nat)), ps ≠ [] → (joinL [s] ps).length + 1 = (ps.map (·.length)).sum + ps.length
  | [], h => absurd rfl h
  | [p], _ => by
    show p.length + 1 = p.length + 0 + 1
    omega
  | p :: q :: r, _ => by
    have ih := joinL_len s (q :: r) (by simp)
    show (p ++ ([s] ++ joinL [s] (q :: r))).length + 1 = _
    rw [List.map_cons, List.sum_cons, List.length_append, List.length_append, List.length_cons (as := q :: r)]
    simp only [List.length_cons, List.length_nil] at ih ⊢
    omega
def nl : Str := Str.ofString "\n"
def sp : Str := Str.ofString " "
theorem tl_nl : tl nl = [10] := by decide +kernel
theorem tl_sp : tl sp = [32] := by decide +kernel
theorem kind_nl : nl.cps.all (· < 256) = true := by decide +kernel
theorem kind_sp : sp.cps.all (· < 256) = true := by decide +kernel
section
variable {y : Str} {s : Nat}
theorem split_tl (ey : tl y = [s]) (hk : y.cps.all (· < 256) = true) (x : Str) : (Txt.split x y).map tl = spl [s] 0 [] (tl x) := by
  rw [split_spl _ y (by rw [ey]; simp) (kind_ok hk), ey]
theorem split_ne (ey : tl y = [s]) (hk : y.cps.all (· < 256) = true) (x : Str) : Txt.split x y ≠ [] := fun e => by
  have h := split_tl ey hk x
  rw [e] at h
  exact spl_ne s _ _ h.symm
theorem join_split (ey : tl y = [s]) (hk : y.cps.all (· < 256) = true) (x : Str) : Txt.join y (Txt.split x y) = x := by
  refine ext_tl ?_
  rw [join_eq, tl_join, ey, split_tl ey hk, join_spl, List.nil_append]
theorem split_free (ey : tl y = [s]) (hk : y.cps.all (· < 256) = true) (x : Str) : ∀ p ∈ Txt.split x y, s ∉ tl p := fun p hp =>
  spl_free s (tl x) [] (by simp) (tl p) (by rw [← split_tl ey hk x]; exact List.mem_map_of_mem hp)
theorem split_sub (ey : tl y = [s]) (hk : y.cps.all (· < 256) = true) (x : Str) {t : Nat} (h : t ∉ tl x) : ∀ p ∈ Txt.split x y, t ∉ tl p := fun p hp =>
  spl_sub s (tl x) [] t h (by simp) (tl p) (by rw [← split_tl ey hk x]; exact List.mem_map_of_mem hp)
theorem join_len (ey : tl y = [s]) (ps : List Str) (h : ps ≠ []) : (Txt.join y ps).length + 1 = (ps.map (·.length)).sum + ps.length := by
  rw [len_tl, join_eq, tl_join, ey, joinL_len s _ (by simpa using h), List.map_map, List.length_map]
  have e : (ps.map (List.length ∘ tl)) = ps.map (·.length) := List.map_congr_left fun p _ => (len_tl p).symm
  rw [e]
theorem split_len (ey : tl y = [s]) (hk : y.cps.all (· < 256) = true) (x : Str) : ((Txt.split x y).map (·.length)).sum + (Txt.split x y).length = x.length + 1 := by
  rw [← join_len ey _ (split_ne ey hk x), join_split ey hk]
end
/-! ### lines of words -/
abbrev Lines := List (List Str)
def splitW (z : Str) : Lines := (Txt.split z nl).map fun l => Txt.split l sp
def joinW (ls : Lines) : Str := Txt.join nl (ls.map fun ws => Txt.join sp ws)
def plainW (ls : Lines) : Prop := ls ≠ [] ∧ ∀ ws ∈ ls, ws ≠ [] ∧ ∀ x ∈ ws, 32 ∉ tl x ∧ 10 ∉ tl x
theorem splitW_plain (z : Str) : plainW (splitW z) := by
  refine ⟨fun e => split_ne tl_nl kind_nl z (List.map_eq_nil_iff.mp e), fun ws hw => ?_⟩
  obtain ⟨l, hl, rfl⟩ := List.mem_map.mp hw
  exact ⟨split_ne tl_sp kind_sp l, fun x hx => ⟨split_free tl_sp kind_sp l x hx, split_sub tl_sp kind_sp l (split_free tl_nl kind_nl z l hl) x hx⟩⟩
theorem joinW_splitW (z : Str) : joinW (splitW z) = z := by
  show Txt.join nl (((Txt.split z nl).map fun l => Txt.split l sp).map fun ws => Txt.join sp ws) = z
  rw [List.map_map]
  have e : ((Txt.split z nl).map ((fun ws => Txt.join sp ws) ∘ fun l => Txt.split l sp)) = Txt.split z nl := by
    refine (List.map_congr_left fun l _ => ?_).trans (List.map_id _)
    exact join_split tl_sp kind_sp l
  rw [e, join_split tl_nl kind_nl]
theorem mem_joinL {s t : Nat} : ∀ {ps : List (List Nat)}, t ∈ joinL [s] ps → t = s ∨ ∃ p ∈ ps, t ∈ p
  | [], h => by cases h
  | [p], h => .inr ⟨p, List.mem_cons_self, h⟩
  | p :: q :: r, h => by
    rcases List.mem_append.mp (show t ∈ p ++ ([s] ++ joinL [s] (q :: r)) from h) with h | h
    · exact .inr ⟨p, List.mem_cons_self, h⟩
    · rcases List.mem_append.mp h with h | h
      · exact .inl (List.mem_singleton.mp h)
      · rcases mem_joinL h with h | ⟨p', hp, h⟩
        · exact .inl h
        · exact .inr ⟨p', List.mem_cons_of_mem _ hp, h⟩
theorem splitW_joinW {ls : Lines} (h : plainW ls) : splitW (joinW ls) = ls := by
  show (Txt.split (Txt.join nl (ls.map fun ws => Txt.join sp ws)) nl).map (fun l => Txt.split l sp) = ls
  rw [split_join tl_nl kind_nl (by simpa using h.1) fun p hp => ?_, List.map_map]
  · refine (List.map_congr_left fun ws hw => ?_).trans (List.map_id _)
    exact split_join tl_sp kind_sp (h.2 ws hw).1 fun p hp => ((h.2 ws hw).2 p hp).1
  · obtain ⟨ws, hw, rfl⟩ := List.mem_map.mp hp
    intro hm
    rw [join_eq, tl_join, tl_sp] at hm
    rcases mem_joinL hm with e | ⟨p, hp, hm⟩
    · cases e
    · obtain ⟨x, hx, rfl⟩ := List.mem_map.mp hp
      exact ((h.2 ws hw).2 x hx).2 hm
/-- how much there is -/
def totW (ls : Lines) : Nat := (ls.map fun ws => (ws.map (·.length)).sum + ws.length + 1).sum
theorem sum_le_of {α : Type} (f : α → Nat) : ∀ (l : List α) (x : α), x ∈ l → f x ≤ (l.map f).sum
  | [], _, h => by cases h
  | a :: l, x, h => by
    rw [List.map_cons, List.sum_cons]
    rcases List.mem_cons.mp h with e | h
    · rw [e]; omega
    · have := sum_le_of f l x h
      omega
theorem length_le_sum {α : Type} (f : α → Nat) (k : ∀ x, 1 ≤ f x) : ∀ l : List α, l.length ≤ (l.map f).sum
  | [] => Nat.le_refl _
  | a :: l => by
    rw [List.map_cons, List.sum_cons, List.length_cons]
    have := length_le_sum f k l
    have := k a
    omega
theorem totW_len (ls : Lines) : ls.length ≤ totW ls := length_le_sum _ (fun _ => by omega) ls
theorem totW_row {ls : Lines} {ws : List Str} (h : ws ∈ ls) : (ws.map (·.length)).sum + ws.length + 1 ≤ totW ls := sum_le_of (fun ws => (ws.map (·.length)).sum + ws.length + 1) ls ws h
theorem joinW_le (ls : Lines) : ((ls.map fun ws => Txt.join sp ws).map (·.length)).sum + ls.length ≤ totW ls := by
  induction ls with
  | nil => exact Nat.le_refl _
  | cons ws r ih =>
    show ((Txt.join sp ws).length + ((r.map fun ws => Txt.join sp ws).map (·.length)).sum) + (r.length + 1) ≤ ((ws.map (·.length)).sum + ws.length + 1) + totW r
    have h : (Txt.join sp ws).length ≤ (ws.map (·.length)).sum + ws.length := by
      cases ws with
      | nil => exact Nat.le_of_eq (by rw [join_eq]; rfl)
      | cons x t =>
        have := join_len tl_sp (x :: t) (by simp)
        omega
    omega
theorem splitW_tot (z : Str) : totW (splitW z) ≤ 3 * z.length + 3 := by
  have h1 := split_len tl_nl kind_nl z
  have h2 : ∀ ls : List Str, totW (ls.map fun l => Txt.split l sp) = (ls.map (·.length)).sum + 2 * ls.length := by
    intro ls
    induction ls with
    | nil => rfl
    | cons l r ih =>
      have h3 := split_len tl_sp kind_sp l
      show ((Txt.split l sp).map (·.length)).sum + (Txt.split l sp).length + 1 + totW (r.map fun l => Txt.split l sp) = (l.length + (r.map (·.length)).sum) + 2 * (r.length + 1)
      omega
  show totW ((Txt.split z nl).map fun l => Txt.split l sp) ≤ _
  rw [h2]
  omega
end K01
namespace K01
open PySem PySem.Spec PyProof.Rows L2
local macro_rules | `(tactic| walk_at "rd") => `(tactic| simp only [start1, wipe, isR, isBool, isInt, isStr, isLst, isTup, tAsg, gName, gSub, tVar, tC, tOp, tUn, tTest, tIfS, tRet, tRetN, tDrop, tB, tAnd, tOr, tNot, tAndV, tOrV, tNotV, tIf, tCB, tCons, tNil, tNext, tCall, tBM, tTup, tLst, rI0, rI, rEq, rNe, scal, forR_eq, forR2_eq, forS_eq, forL_eq, lcL_eq, lcR_eq, lcS_eq, rLenX, rLenS, rMulS, rRepL, rCatL, tPart, tNoPart, CwR.tReplC, rAllK, rInSg, rNinSg, sgn_inj, rAddS, rInSt, tChain, tM1, tM0, rSplitN, rJoinN, exists_eq, rIntI, rIntB, rIntS, rStrI, rAbs, rOrd, rMin, rMax, rIxL, rIxX, rSetL, rAppend, rIxS, rSlS, rSlL, tSl, List.map_cons, List.map_nil, List.replicate_succ, List.replicate_zero, List.length_cons, List.length_nil, Nat.reduceSub, Nat.reduceAdd, Nat.zero_add, Nat.sub_self, List.getElem?_cons_zero, List.getElem?_cons_succ, List.set_cons_zero, List.set_cons_succ, List.append_nil, List.nil_append, List.cons_append, Option.some.injEq, not_true_eq_false, reduceCtorEq, exists_eq_left', exists_eq_left, exists_eq', exists_and_left, exists_and_right, V.int.injEq, V.str.injEq, V.bl.injEq, V.ref.injEq, List.cons.injEq, and_true, true_and, and_assoc, decide_eq_true_eq, Bool.not_eq_true', decide_eq_false_iff_not, ite_true, ite_false, if_true, if_false, Bool.not_true, Bool.not_false, Bool.false_eq_true, eq_self_iff_true, reduceIte, ne_eq, Int.reduceEq, not_false_eq_true])
local macro_rules | `(tactic| walk_at "rt") => `(tactic| try walk_at "rd")
local macro_rules | `(tactic| walk_at "st") => `(tactic| (walk_at "rt"; refine r_seq ?_; walk_at "rt"))
local macro_rules | `(tactic| walk_at "hp") => `(tactic| first | assumption | exact upd_same | (rw [upd_ne (by assumption)]; walk_at "hp"))
local macro_rules | `(tactic| walk_at "ex1") => `(tactic| ((with_reducible refine Exists.intro ?w (And.intro ?hx ?_)); (case hx => first | exact sq_of (by walk_at "hp") | exact .inl (sq_of (by walk_at "hp")) | exact rfl | (show _ = some (HO.lst _); walk_at "hp"))))
local macro_rules | `(tactic| walk_at "ex") => `(tactic| repeat (first | walk_at "ex1" | walk_at "rd"))
abbrev s_mixed : Stmt := topS 43
theorem sc_mixed : FnScope ["number", "turn", "many", "one", "two", "three", "value"] ["number", "turn", "many"] (defScope s_mixed) := ⟨rfl, rfl, rfl, by decide +kernel, rfl, by decide +kernel, by decide +kernel⟩
abbrev s_take : Stmt := topS 44
theorem sc_take : FnScope ["store", "many", "value", "number", "cell"] ["store", "many"] (defScope s_take) := ⟨rfl, rfl, rfl, by decide +kernel, rfl, by decide +kernel, by decide +kernel⟩
abbrev s_pick : Stmt := topS 45
theorem sc_pick : FnScope ["store", "row"] ["store", "row"] (defScope s_pick) := ⟨rfl, rfl, rfl, by decide +kernel, rfl, by decide +kernel, by decide +kernel⟩
abbrev s_chance : Stmt := topS 46
theorem sc_chance : FnScope ["store", "many"] ["store", "many"] (defScope s_chance) := ⟨rfl, rfl, rfl, by decide +kernel, rfl, by decide +kernel, by decide +kernel⟩
abbrev s_number : Stmt := topS 47
theorem sc_number : FnScope ["store", "low", "high", "kind"] ["store", "low", "high"] (defScope s_number) := ⟨rfl, rfl, rfl, by decide +kernel, rfl, by decide +kernel, by decide +kernel⟩
abbrev s_size : Stmt := topS 48
theorem sc_size : FnScope ["store", "low", "high", "kind"] ["store", "low", "high"] (defScope s_size) := ⟨rfl, rfl, rfl, by decide +kernel, rfl, by decide +kernel, by decide +kernel⟩
/-! ### the store that draws -/
structure StoreAt (H : Hp) (a c : Addr) : Prop where
  ex : ∃ (cells : List Int) (pos val turn seed : Int), H a = some (.lst [.ref c, .int pos, .int val, .int turn, .int seed]) ∧ H c = some (.lst (cells.map V.int)) ∧ 0 ≤ pos ∧ 0 ≤ val
  ne : c ≠ a
/-- what a draw leaves -/
def Drawn (H : Hp) (a c : Addr) (R : V → Prop) (Q : VK) : Prop := ∀ v H', StoreAt H' a c → But a H H' → R v → Q v H'
def spMixed : Sp := fun vs H Q _ => ∃ (n t m : Int), vs = [.int n, .int t, .int m] ∧ 2 ≤ m ∧ ∀ r : Int, 0 ≤ r → r < m → Q (.int r) H
/-- a number below many -/
def Below (m : Int) (v : V) : Prop := ∃ r : Int, v = .int r ∧ 0 ≤ r ∧ (r < m ∨ r = 0)
def spTake : Sp := fun vs H Q _ => ∃ (a c : Addr) (m : Int), vs = [.ref a, .int m] ∧ StoreAt H a c ∧ m ≤ 2 ^ 70 ∧ Drawn H a c (Below m) Q
theorem fm {x M y : Int} (hM : 0 < M) (e : x.fmod M = y) : 0 ≤ y ∧ y < M := by
  rw [← e, Int.fmod_eq_emod_of_nonneg _ (by omega)]
  exact ⟨Int.emod_nonneg _ (by omega), Int.emod_lt_of_pos _ hM⟩
theorem small_div {m : Int} (h2 : 2 ≤ m) (h : m ≤ 2 ^ 70) (x : Int) : CDivW x m := wide_div (b := 71) (by omega) (by omega) (by decide) (by decide)
section
variable {P : Program} {w : World} {K : PySem.W.Frag} {mg : Str → Option Value} {base : Heap}
theorem ok_mixed {f : Addr} {fd : FuncData} (B : Bi mg) (D : Dn K mg "_law_mixed" s_mixed ["number", "turn", "many"] f fd) : FnOk P w K mg base CX0 1 f fd ["number", "turn", "many"] spMixed := by
  refine D.F.ok sc_mixed (fun vs H Q E h => ?_) (fun cdv A outer s H vs Q E hr h => ?_)
  · obtain ⟨n, t, m, rfl, _⟩ := h
    rfl
  · obtain ⟨n, t, m, rfl, hm, q⟩ := h
    refine ⟨_, (pss_cons (ps_set (i := 3) sc_mixed.nd rfl (.inl rfl) (pe_op op_modN (pe_callTy call_intI (by rfl) B.int_ (by decide +kernel) (pa_cons (pe_op op_add (pe_op op_add (pe_op op_mul (pv 0) pe_int) (pe_op op_mul (pv 1) pe_int)) pe_int) pa_nil)) pe_int))
      (pss_cons (ps_set (i := 4) sc_mixed.nd rfl (.inl rfl) (pe_op op_modN (pe_callTy call_intI (by rfl) B.int_ (by decide +kernel) (pa_cons (pe_op op_add (pe_op op_add (pe_op op_mul (pv 3) (pv 3)) (pv 1)) pe_int) pa_nil)) pe_int))
      (pss_cons (ps_set (i := 5) sc_mixed.nd rfl (.inl rfl) (pe_op op_modN (pe_callTy call_intI (by rfl) B.int_ (by decide +kernel) (pa_cons (pe_op op_add (pe_op op_mul (pv 4) (pv 4)) (pv 3)) pa_nil)) pe_int))
      (pss_cons (ps_set (i := 6) sc_mixed.nd rfl (.inl rfl) (pe_op op_fdivW (pv 5) pe_int))
      (C8.pss_cut (ps_if (pt_cmpR op_gt (pv 2) pe_int (nomark _)) (pss_one (ps_set (i := 6) sc_mixed.nd rfl (.inl rfl) (pe_op op_add (pe_op op_mul (pv 6) pe_int) (pe_op op_modN (pe_callTy call_intI (by rfl) B.int_ (by decide +kernel) (pa_cons (pe_op op_add (pe_op op_mul (pv 5) (pv 5)) (pv 4)) pa_nil)) pe_int)))) pss_nil)
      (pss_one (ps_ret (pe_op op_modN (pe_callTy call_intI (by rfl) B.int_ (by decide +kernel) (pa_cons (pv 6) pa_nil)) (pv 2))))))))), ?_⟩
    walk_at "st"
    refine ⟨.inr ⟨by decide, by decide⟩, .inr ⟨by decide, by decide⟩, ?_⟩
    generalize e1 : Int.fmod _ _ = one
    obtain ⟨a1, b1⟩ := fm (by decide) e1
    walk_at "st"
    refine ⟨.inl ⟨by omega, by omega⟩, ?_⟩
    generalize e2 : Int.fmod _ _ = two
    obtain ⟨a2, b2⟩ := fm (by decide) e2
    walk_at "st"
    refine ⟨.inl ⟨by omega, by omega⟩, ?_⟩
    generalize e3 : Int.fmod _ _ = three
    obtain ⟨a3, b3⟩ := fm (by decide) e3
    walk_at "st"
    refine ⟨⟨by decide, by decide⟩, ?_⟩
    refine r_cut (fun σ' H' => (∃ v : Int, σ' = [some (.int n), some (.int t), some (.int m), some (.int one), some (.int two), some (.int three), some (.int v)]) ∧ H' = H) (fun N k => ?_) ?_
    · walk_at "rt"
      exact ite2 (fun _ => ⟨.inr ⟨by decide, by decide⟩, .inl ⟨by omega, by omega⟩, k _ _ ⟨⟨_, rfl⟩, rfl⟩⟩) (fun _ => k _ _ ⟨⟨_, rfl⟩, rfl⟩)
    · rintro σ' H' ⟨⟨v, rfl⟩, rfl⟩
      walk_at "rt"
      generalize e4 : Int.fmod _ _ = r
      obtain ⟨a4, b4⟩ := fm (by omega) e4
      exact ⟨by omega, q r a4 b4⟩
theorem ok_take {f fM : Addr} {fd fdM : FuncData} (B : Bi mg) (D : Dn K mg "_law_take" s_take ["store", "many"] f fd) (D_mixed : Dn K mg "_law_mixed" s_mixed ["number", "turn", "many"] fM fdM) : FnOk P w K mg base CX0 2 f fd ["store", "many"] spTake := by
  have G_mixed : FnOk P w K mg base CX0 1 fM fdM ["number", "turn", "many"] spMixed := ok_mixed B D_mixed
  refine D.F.ok sc_take (fun vs H Q E h => ?_) (fun cdv A outer s H vs Q E hr h => ?_)
  · obtain ⟨a, c, m, rfl, _⟩ := h
    rfl
  · obtain ⟨a, c, m, rfl, S, hm, q⟩ := h
    obtain ⟨cells, pos, val, turn, seed, ha, hc, h0, hv⟩ := S.ex
    refine ⟨_, (pss_cons (ps_if (pt_cmpR op_lt (pv 1) pe_int (nomark _)) (pss_one (ps_ret pe_int)) pss_nil)
      (pss_cons (ps_set (i := 2) sc_take.nd rfl (.inl rfl) (pe_ix (ix_listK (K := K)) (pv 0) pe_int (fun _ _ => rfl)))
      (pss_cons (ps_set (i := 3) sc_take.nd rfl (.inl rfl) (pe_ix (ix_listK (K := K)) (pv 0) pe_int (fun _ _ => rfl)))
      (C8.pss_cut (ps_if (pt_cmpR op_eq (pv 2) pe_int (nomark _)) (pss_cons (ps_asg (pe_op op_add (pe_ix (ix_listK (K := K)) (pv 0) pe_int (fun _ _ => rfl)) pe_int) (pg_sub (pv 0) pe_int set_list (fun _ => rfl)))
      (pss_one (ps_if (pt_cmpR op_lt (pe_ix (ix_listK (K := K)) (pv 0) pe_int (fun _ _ => rfl)) (pe_callB (call_lenXK (K := K)) (by rfl) B.len PySem.boot_len (pa_cons (pe_ix (ix_listK (K := K)) (pv 0) pe_int (fun _ _ => rfl)) pa_nil)) (nomark _)) (pss_cons (ps_set (i := 4) sc_take.nd rfl (.inl rfl) (pe_ix (ix_listK (K := K)) (pe_ix (ix_listK (K := K)) (pv 0) pe_int (fun _ _ => rfl)) (pe_ix (ix_listK (K := K)) (pv 0) pe_int (fun _ _ => rfl)) (fun _ _ => rfl)))
      (pss_cons (ps_asg (pe_op op_add (pe_ix (ix_listK (K := K)) (pv 0) pe_int (fun _ _ => rfl)) pe_int) (pg_sub (pv 0) pe_int set_list (fun _ => rfl)))
      (pss_cons (ps_set (i := 3) sc_take.nd rfl (.inl rfl) (pe_op op_mul (pe_callB call_absI (by rfl) B.abs (by decide +kernel) (pa_cons (pv 4) pa_nil)) pe_int))
      (C8.pss_cut (ps_if (pt_cmpR op_lt (pv 4) pe_int (nomark _)) (pss_one (ps_set (i := 3) sc_take.nd rfl (.inl rfl) (pe_op op_add (pv 3) pe_int))) pss_nil)
      (pss_one (ps_if (pt_cmpR op_ge (pe_callB call_absI (by rfl) B.abs (by decide +kernel) (pa_cons (pv 4) pa_nil)) (pe_op op_pow pe_int pe_int) (nomark _)) (pss_one (ps_set (i := 2) sc_take.nd rfl (.inl rfl) (pe_callB call_absI (by rfl) B.abs (by decide +kernel) (pa_cons (pv 4) pa_nil)))) pss_nil)))))) pss_nil))) pss_nil)
      (pss_cons (ps_if (pt_cmpR op_eq (pv 2) pe_int (nomark _)) (pss_one (ps_ret (pe_call G_mixed (hr.mono (by omega)) (by rfl) D_mixed.g D_mixed.F.kp D_mixed.b .nil pass0 (pa_cons (pv 3) (pa_cons (pe_ix (ix_listK (K := K)) (pv 0) pe_int (fun _ _ => rfl)) (pa_cons (pv 1) pa_nil)))))) pss_nil)
      (pss_cons (ps_asg (pe_op op_fdivW (pe_callTy call_intI (by rfl) B.int_ (by decide +kernel) (pa_cons (pv 2) pa_nil)) (pv 1)) (pg_sub (pv 0) pe_int set_list (fun _ => rfl)))
      (pss_one (ps_ret (pe_op op_modN (pe_callTy call_intI (by rfl) B.int_ (by decide +kernel) (pa_cons (pv 2) pa_nil)) (pv 1)))))))))), ?_⟩
    walk_at "st"
    refine ite2 (fun hlt => ?_) (fun hge => ?_)
    · exact q _ _ S (But.refl _ _) ⟨0, rfl, by omega, .inr rfl⟩
    walk_at "st"
    refine ⟨_, sq_of ha, _, rfl, ?_⟩
    walk_at "st"
    refine ⟨_, sq_of ha, _, rfl, ?_⟩
    refine r_cut (fun σ' H' => ∃ (v n pos' turn' : Int) (x : Option V), σ' = [some (.ref a), some (.int m), some (.int v), some (.int n), x] ∧ H' a = some (.lst [.ref c, .int pos', .int val, .int turn', .int seed]) ∧ H' c = some (.lst (cells.map V.int)) ∧ 0 ≤ pos' ∧ 0 ≤ v ∧ But a H H') (fun N k => ?_) ?_
    · walk_at "rt"
      refine ite2 (fun hz => ?_) (fun hz => k _ _ ⟨_, _, _, _, _, rfl, ha, hc, h0, hv, But.refl _ _⟩)
      have nca := S.ne
      walk_at "st"
      walk_at "ex"
      generalize hH1 : upd H a _ = H1
      have ha1 : H1 a = some (.lst [.ref c, .int pos, .int val, .int (turn + 1), .int seed]) := by rw [← hH1]; exact upd_same
      have hc1 : H1 c = some (.lst (cells.map V.int)) := by rw [← hH1, upd_ne nca]; exact hc
      have b1 : But a H H1 := by rw [← hH1]; exact But.updA
      refine ite2 (fun hp => ?_) (fun hp => k _ _ ⟨_, _, _, _, _, rfl, ha1, hc1, h0, hv, b1⟩)
      have hp' : pos.toNat < cells.length := by
        rw [List.length_map] at hp
        omega
      obtain ⟨cell, hat⟩ := atI_map h0 hp'
      walk_at "st"
      walk_at "ex"

      refine ⟨_, hat, ?_⟩
      walk_at "st"
      walk_at "ex"
      generalize hH2 : upd H1 a _ = H2
      have ha2 : H2 a = some (.lst [.ref c, .int (pos + 1), .int val, .int (turn + 1), .int seed]) := by rw [← hH2]; exact upd_same
      have hc2 : H2 c = some (.lst (cells.map V.int)) := by rw [← hH2, upd_ne nca]; exact hc1
      have b2 : But a H H2 := b1.trans (by rw [← hH2]; exact But.updA)
      walk_at "st"
      refine ⟨.inr ⟨by decide, by decide⟩, ?_⟩
      refine r_cut (fun σ' H' => ∃ (n : Int), σ' = [some (.ref a), some (.int m), some (.int val), some (.int n), some (.int cell)] ∧ H' = H2) (fun N' k' => ?_) ?_
      · walk_at "rt"
        exact ite2 (fun _ => k' _ _ ⟨_, rfl, rfl⟩) (fun _ => k' _ _ ⟨_, rfl, rfl⟩)
      · rintro σ' H' ⟨n, rfl, rfl⟩
        walk_at "rt"
        refine ⟨⟨by decide, by decide, by decide⟩, ite2 (fun _ => k _ _ ⟨_, _, _, _, _, rfl, ha2, hc2, by omega, by split <;> omega, b2⟩) (fun _ => k _ _ ⟨_, _, _, _, _, rfl, ha2, hc2, by omega, hv, b2⟩)⟩
    · rintro σ' H' ⟨v, n, pos', turn', x, rfl, ha', hc', h0', hv', b'⟩
      have nca := S.ne
      walk_at "st"
      refine ite2 (fun hz => ?_) (fun hz => ?_)
      · walk_at "ex"
        refine ⟨_, _, _, rfl, by omega, fun r h1 h2 => q _ _ ⟨⟨cells, pos', val, turn', seed, ha', hc', h0', hv⟩, nca⟩ b' ⟨r, rfl, h1, .inl h2⟩⟩
      · walk_at "st"
        refine ⟨small_div (by omega) hm _, ?_⟩
        walk_at "ex"
        generalize hH1 : upd H' a _ = H1
        have ha1 : H1 a = some (.lst [.ref c, .int pos', .int (v / m), .int turn', .int seed]) := by rw [← hH1]; exact upd_same
        have hc1 : H1 c = some (.lst (cells.map V.int)) := by rw [← hH1, upd_ne nca]; exact hc'
        have b1 : But a H H1 := b'.trans (by rw [← hH1]; exact But.updA)

        refine ⟨by omega, ?_⟩
        generalize e4 : Int.fmod _ _ = r
        obtain ⟨a4, b4⟩ := fm (by omega) e4
        exact q _ _ ⟨⟨cells, pos', v / m, turn', seed, ha1, hc1, h0', Int.ediv_nonneg hv' (by omega)⟩, nca⟩ b1 ⟨r, rfl, a4, .inl b4⟩
end
end K01
namespace K01
open PySem PySem.Spec PyProof.Rows L2
local macro_rules | `(tactic| walk_at "rd") => `(tactic| simp only [start1, wipe, isR, isBool, isInt, isStr, isLst, isTup, tAsg, gName, gSub, tVar, tC, tOp, tUn, tTest, tIfS, tRet, tRetN, tDrop, tB, tAnd, tOr, tNot, tAndV, tOrV, tNotV, tIf, tCB, tCons, tNil, tNext, tCall, tBM, tTup, tLst, rI0, rI, rEq, rNe, scal, forR_eq, forR2_eq, forS_eq, forL_eq, lcL_eq, lcR_eq, lcS_eq, rLenX, rLenS, rMulS, rRepL, rCatL, tPart, tNoPart, CwR.tReplC, rAllK, rInSg, rNinSg, sgn_inj, rAddS, rInSt, tChain, tM1, tM0, rSplitN, rJoinN, exists_eq, rIntI, rIntB, rIntS, rStrI, rAbs, rOrd, rMin, rMax, rIxL, rIxX, rSetL, rAppend, rIxS, rSlS, rSlL, tSl, List.map_cons, List.map_nil, List.replicate_succ, List.replicate_zero, List.length_cons, List.length_nil, Nat.reduceSub, Nat.reduceAdd, Nat.zero_add, Nat.sub_self, List.getElem?_cons_zero, List.getElem?_cons_succ, List.set_cons_zero, List.set_cons_succ, List.append_nil, List.nil_append, List.cons_append, Option.some.injEq, not_true_eq_false, reduceCtorEq, exists_eq_left', exists_eq_left, exists_eq', exists_and_left, exists_and_right, V.int.injEq, V.str.injEq, V.bl.injEq, V.ref.injEq, List.cons.injEq, and_true, true_and, and_assoc, decide_eq_true_eq, Bool.not_eq_true', decide_eq_false_iff_not, ite_true, ite_false, if_true, if_false, Bool.not_true, Bool.not_false, Bool.false_eq_true, eq_self_iff_true, reduceIte, ne_eq, Int.reduceEq, not_false_eq_true])
local macro_rules | `(tactic| walk_at "rt") => `(tactic| try walk_at "rd")
local macro_rules | `(tactic| walk_at "st") => `(tactic| (walk_at "rt"; refine r_seq ?_; walk_at "rt"))
local macro_rules | `(tactic| walk_at "hp") => `(tactic| first | assumption | exact upd_same | (rw [upd_ne (by assumption)]; walk_at "hp"))
local macro_rules | `(tactic| walk_at "ex1") => `(tactic| ((with_reducible refine Exists.intro ?w (And.intro ?hx ?_)); (case hx => first | exact sq_of (by walk_at "hp") | exact .inl (sq_of (by walk_at "hp")) | exact rfl | (show _ = some (HO.lst _); walk_at "hp"))))
local macro_rules | `(tactic| walk_at "ex") => `(tactic| repeat (first | walk_at "ex1" | walk_at "rd"))
abbrev s_store : Stmt := topS 42
theorem sc_store : FnScope ["script", "cell", "cells", "seed"] ["script"] (defScope s_store) := ⟨rfl, rfl, rfl, by decide +kernel, rfl, by decide +kernel, by decide +kernel⟩

def spStore (K : PySem.W.Frag) : Sp := fun vs H Q _ => ∃ (s : Addr) (ns : List Int), vs = [.ref s] ∧ SqL K H s (ns.map V.int) ∧ ns.length ≤ 63 ∧ ∀ (a c : Addr) (H' : Hp), Same H H' → H a = none → StoreAt H' a c → Q (.ref a) H'
def spPick : Sp := fun vs H Q _ => ∃ (a c : Addr) (z : Str), vs = [.ref a, .str z] ∧ StoreAt H a c ∧ z.cps.toList ≠ [] ∧ z.length ≤ 1000 ∧ Drawn H a c (fun v => ∃ k, k ∈ z.cps.toList ∧ v = .str ⟨#[k]⟩) Q
def spChance : Sp := fun vs H Q _ => ∃ (a c : Addr) (m : Int), vs = [.ref a, .int m] ∧ StoreAt H a c ∧ m ≤ 2 ^ 70 ∧ Drawn H a c (fun v => ∃ b, v = .bl b) Q
/-- a number from low to high -/
def Within (lo hi : Int) (v : V) : Prop := ∃ r : Int, v = .int r ∧ lo ≤ r ∧ r ≤ hi
def spRange : Sp := fun vs H Q _ => ∃ (a c : Addr) (lo hi : Int), vs = [.ref a, .int lo, .int hi] ∧ StoreAt H a c ∧ lo ≤ hi ∧ hi - lo < 2 ^ 70 ∧ Drawn H a c (Within lo hi) Q
theorem Drawn.mono {H H1 : Hp} {a c : Addr} {R R' : V → Prop} {Q : VK} (b : But a H H1) (k : ∀ v, R' v → R v) (q : Drawn H a c R Q) : Drawn H1 a c R' Q := fun v H' s b' r => q v H' s (b.trans b') (k v r)
theorem drawn_at {H H1 : Hp} {a c : Addr} {R : V → Prop} {Q : VK} {v : V} (q : Drawn H a c R Q) (S : StoreAt H1 a c) (b : But a H H1) (r : R v) : Q v H1 := q v H1 S b r
section
variable {P : Program} {w : World} {K : PySem.W.Frag} {mg : Str → Option Value} {base : Heap}
theorem ok_store {f : Addr} {fd : FuncData} (B : Bi mg) (D : Dn K mg "_law_store" s_store ["script"] f fd) : FnOk P w K mg base CX0 1 f fd ["script"] (spStore K) := by
  refine D.F.ok sc_store (fun vs H Q E h => ?_) (fun cdv A outer s H vs Q E hr h => ?_)
  · obtain ⟨a, ns, rfl, _⟩ := h
    rfl
  · obtain ⟨a, ns, rfl, S, hl, q⟩ := h
    refine ⟨_, (pss_cons (ps_setLc (i := 2) (own := [("cell", 1)]) (g := gName 1) (tt := tYes) (by rfl) sc_store.nd rfl rfl (sw_true rfl rfl rfl (by decide +kernel)) (pi_listK (K := K) (pv 0)) (blkOk_by (own := [("cell", 1)]) (N := ["script", "cell", "cells", "seed"]) (sc := defScope s_store) (by decide +kernel)) (fun _ _ _ _ _ => pg_name (i := 1) sc_store.nd rfl (Or.inl rfl)) (fun _ _ _ _ _ => pts_nil) (fun _ _ _ _ _ => (pe_callTy call_intI (by rfl) B.int_ (by decide +kernel) (pa_cons (pv 1) pa_nil))))
      (pss_cons (ps_set (i := 3) sc_store.nd rfl (.inl rfl) (pe_op op_add pe_int (pe_callB (call_lenXK (K := K)) (by rfl) B.len PySem.boot_len (pa_cons (pv 2) pa_nil))))
      (pss_cons (ps_for PassesOwn.never rfl (pi_listK (K := K) (pv 2)) (pg_name (i := 1) sc_store.nd rfl (.inl rfl)) (pss_one (ps_set (i := 3) sc_store.nd rfl (.inl rfl) (pe_op op_modN (pe_callTy call_intI (by rfl) B.int_ (by decide +kernel) (pa_cons (pe_op op_add (pe_op op_mul (pv 3) pe_int) (pe_op op_modN (pe_callTy call_intI (by rfl) B.int_ (by decide +kernel) (pa_cons (pv 1) pa_nil)) pe_int)) pa_nil)) pe_int))))
      (pss_one (ps_ret (pe_lst (pa_cons (pv 2) (pa_cons pe_int (pa_cons pe_int (pa_cons pe_int (pa_cons (pv 3) pa_nil))))))))))), ?_⟩
    refine r_seq ?_
    refine ⟨_, rfl, a, rfl, ⟨_, S⟩, fun c nc => ?_⟩
    refine r_lcL (K := K) (a := a) (ns.map V.int) (fun i H' => But c H H' ∧ H' c = some (.lst ((ns.take i).map V.int))) (fun _ => rfl) ⟨But.updA, upd_same⟩ (fun i H' _ h => (h.1.same nc).seq S) ?_ ?_
    · rintro i x H' hx ⟨sm, hc⟩ N k
      obtain ⟨z, hz, rfl⟩ := map_get hx
      have hi := lt_of_get hz
      have hw : wipe [some (V.ref a), none, none, none] [1] = [some (V.ref a), none, none, none] := rfl
      show tCB _ _ [some (V.ref a), some (V.int z), none, none] _ _
      walk_at "rt"
      refine k _ _ _ hc ?_ ⟨sm.trans But.updA, ?_⟩
      · rw [List.length_map, List.length_take]; exact small1000 (by omega)
      · rw [upd_same, take_map hz]
    · rintro H1 ⟨sm, hc⟩
      rw [List.length_map, List.take_length] at hc
      walk_at "rt"
      walk_at "st"
      walk_at "ex"
      refine r_seq ?_
      refine ⟨_, rfl, c, rfl, ⟨_, sq_of hc⟩, ?_⟩
      refine r_list (K := K) (a := c) (ns.map V.int) (fun i σ H' => (∃ (z : Int) (x : Option V), σ = [some (.ref a), x, some (.ref c), some (.int z)]) ∧ H' = H1) ⟨⟨_, _, rfl⟩, rfl⟩ (fun i σ H' _ h => by rw [h.2]; exact sq_of hc) ?_ ?_
      · rintro i x σ H' hx ⟨⟨z, y, rfl⟩, rfl⟩ N k
        obtain ⟨t, ht, rfl⟩ := map_get hx
        walk_at "rt"
        exact ⟨.inr ⟨by decide, by decide⟩, k _ _ ⟨⟨_, _, rfl⟩, rfl⟩⟩
      · rintro σ H' ⟨⟨z, y, rfl⟩, rfl⟩
        walk_at "rt"
        refine ⟨by decide, fun p np => ?_⟩
        have np0 : H p = none := (sm.same nc).free np
        have ncp : c ≠ p := ne_of_none hc np
        exact q p c _ ((sm.same nc).trans (Same.new np)) np0 ⟨⟨ns, 0, 0, 0, z, upd_same, by rw [upd_ne ncp]; exact hc, by decide, by decide⟩, ncp⟩
end
end K01
namespace K01
open PySem PySem.Spec PyProof.Rows L2
local macro_rules | `(tactic| walk_at "rd") => `(tactic| simp only [start1, wipe, isR, isBool, isInt, isStr, isLst, isTup, tAsg, gName, gSub, tVar, tC, tOp, tUn, tTest, tIfS, tRet, tRetN, tDrop, tB, tAnd, tOr, tNot, tAndV, tOrV, tNotV, tIf, tCB, tCons, tNil, tNext, tCall, tBM, tTup, tLst, rI0, rI, rEq, rNe, scal, forR_eq, forR2_eq, forS_eq, forL_eq, lcL_eq, lcR_eq, lcS_eq, rLenX, rLenS, rMulS, rRepL, rCatL, tPart, tNoPart, CwR.tReplC, rAllK, rInSg, rNinSg, sgn_inj, rAddS, rInSt, tChain, tM1, tM0, rSplitN, rJoinN, exists_eq, rIntI, rIntB, rIntS, rStrI, rAbs, rOrd, rMin, rMax, rIxL, rIxX, rSetL, rAppend, rIxS, rSlS, rSlL, tSl, List.map_cons, List.map_nil, List.replicate_succ, List.replicate_zero, List.length_cons, List.length_nil, Nat.reduceSub, Nat.reduceAdd, Nat.zero_add, Nat.sub_self, List.getElem?_cons_zero, List.getElem?_cons_succ, List.set_cons_zero, List.set_cons_succ, List.append_nil, List.nil_append, List.cons_append, Option.some.injEq, not_true_eq_false, reduceCtorEq, exists_eq_left', exists_eq_left, exists_eq', exists_and_left, exists_and_right, V.int.injEq, V.str.injEq, V.bl.injEq, V.ref.injEq, List.cons.injEq, and_true, true_and, and_assoc, decide_eq_true_eq, Bool.not_eq_true', decide_eq_false_iff_not, ite_true, ite_false, if_true, if_false, Bool.not_true, Bool.not_false, Bool.false_eq_true, eq_self_iff_true, reduceIte, ne_eq, Int.reduceEq, not_false_eq_true])
local macro_rules | `(tactic| walk_at "rt") => `(tactic| try walk_at "rd")
local macro_rules | `(tactic| walk_at "st") => `(tactic| (walk_at "rt"; refine r_seq ?_; walk_at "rt"))
local macro_rules | `(tactic| walk_at "hp") => `(tactic| first | assumption | exact upd_same | (rw [upd_ne (by assumption)]; walk_at "hp"))
local macro_rules | `(tactic| walk_at "ex1") => `(tactic| ((with_reducible refine Exists.intro ?w (And.intro ?hx ?_)); (case hx => first | exact sq_of (by walk_at "hp") | exact .inl (sq_of (by walk_at "hp")) | exact rfl | (show _ = some (HO.lst _); walk_at "hp"))))
local macro_rules | `(tactic| walk_at "ex") => `(tactic| repeat (first | walk_at "ex1" | walk_at "rd"))
section
variable {P : Program} {w : World} {K : PySem.W.Frag} {mg : Str → Option Value} {base : Heap}
theorem line_of {n : Nat} (h : n ≤ 16777216) : n ≤ sizeLine := by rw [PySem.sizeLine_eq]; exact h
theorem ok_pick {f f_take : Addr} {fd fd_take : FuncData} (B : Bi mg) (D : Dn K mg "_law_pick" s_pick ["store", "row"] f fd) (D_take : Dn K mg "_law_take" s_take ["store", "many"] f_take fd_take)
    (G_take : FnOk P w K mg base CX0 2 f_take fd_take ["store", "many"] spTake) : FnOk P w K mg base CX0 3 f fd ["store", "row"] spPick := by
  refine D.F.ok sc_pick (fun vs H Q E h => ?_) (fun cdv A outer s H vs Q E hr h => ?_)
  · obtain ⟨a, c, z, rfl, _⟩ := h
    rfl
  · obtain ⟨a, c, z, rfl, S, hne, hl, q⟩ := h
    refine ⟨_, (pss_cons (ps_if (pt_cmpR op_eq (pe_callB call_lenS (by rfl) B.len PySem.boot_len (pa_cons (pv 1) pa_nil)) pe_int (nomark _)) (pss_one (ps_ret pe_non)) pss_nil)
      (pss_one (ps_ret (pe_ix ix_str (pv 1) (pe_call G_take (hr.mono (by omega)) (by rfl) D_take.g D_take.F.kp D_take.b .nil pass0 (pa_cons (pv 0) (pa_cons (pe_callB call_lenS (by rfl) B.len PySem.boot_len (pa_cons (pv 1) pa_nil)) pa_nil))) (fun _ _ => rfl))))), ?_⟩
    have hz : z.cps.toList.length = z.length := rfl
    have hp : 0 < z.length := by
      rw [← hz]
      exact List.length_pos_iff.mpr hne
    walk_at "st"
    refine ⟨line_of (by omega), ite2 (fun e => absurd e (by omega)) (fun _ => ?_)⟩
    walk_at "rt"
    refine ⟨line_of (by omega), a, c, _, rfl, S, by omega, fun v H' S' b' ⟨r, e, r0, r1⟩ => ?_⟩
    subst e
    walk_at "rt"
    obtain ⟨k, hk, hk2⟩ := atI_get (xs := z.cps.toList) (i := r) r0 (by omega)
    exact ⟨line_of (by omega), k, hk, q _ _ S' b' ⟨k, List.mem_of_getElem? hk2, rfl⟩⟩
theorem ok_chance {f f_take : Addr} {fd fd_take : FuncData} (B : Bi mg) (D : Dn K mg "_law_chance" s_chance ["store", "many"] f fd) (D_take : Dn K mg "_law_take" s_take ["store", "many"] f_take fd_take)
    (G_take : FnOk P w K mg base CX0 2 f_take fd_take ["store", "many"] spTake) : FnOk P w K mg base CX0 3 f fd ["store", "many"] spChance := by
  refine D.F.ok sc_chance (fun vs H Q E h => ?_) (fun cdv A outer s H vs Q E hr h => ?_)
  · obtain ⟨a, c, z, rfl, _⟩ := h
    rfl
  · obtain ⟨a, c, m, rfl, S, hm, q⟩ := h
    refine ⟨_, (pss_one (ps_ret (pe_cmpR op_eq (pe_call G_take (hr.mono (by omega)) (by rfl) D_take.g D_take.F.kp D_take.b .nil pass0 (pa_cons (pv 0) (pa_cons (pv 1) pa_nil))) pe_int (nomark _)))), ?_⟩
    walk_at "rt"
    refine ⟨a, c, _, rfl, S, hm, fun v H' S' b' ⟨r, e, r0, r1⟩ => ?_⟩
    subst e
    walk_at "rt"
    exact q _ _ S' b' ⟨_, rfl⟩
theorem ok_number {f f_take f_chance : Addr} {fd fd_take fd_chance : FuncData} (B : Bi mg) (D : Dn K mg "_law_number" s_number ["store", "low", "high"] f fd) (D_take : Dn K mg "_law_take" s_take ["store", "many"] f_take fd_take)
    (D_chance : Dn K mg "_law_chance" s_chance ["store", "many"] f_chance fd_chance)
    (G_take : FnOk P w K mg base CX0 2 f_take fd_take ["store", "many"] spTake) (G_chance : FnOk P w K mg base CX0 3 f_chance fd_chance ["store", "many"] spChance) : FnOk P w K mg base CX0 4 f fd ["store", "low", "high"] spRange := by
  refine D.F.ok sc_number (fun vs H Q E h => ?_) (fun cdv A outer s H vs Q E hr h => ?_)
  · obtain ⟨a, c, lo, hi, rfl, _⟩ := h
    rfl
  · obtain ⟨a, c, lo, hi, rfl, S, hlh, hw, q⟩ := h
    refine ⟨_, (pss_cons (ps_set (i := 3) sc_number.nd rfl (.inl rfl) (pe_call G_take (hr.mono (by omega)) (by rfl) D_take.g D_take.F.kp D_take.b .nil pass0 (pa_cons (pv 0) (pa_cons pe_int pa_nil))))
      (pss_cons (ps_if (pt_cmpR op_eq (pv 3) pe_int (nomark _)) (pss_one (ps_ret (pv 1))) pss_nil)
      (pss_cons (ps_if (pt_cmpR op_eq (pv 3) pe_int (nomark _)) (pss_one (ps_ret (pv 2))) pss_nil)
      (pss_cons (ps_if (pt_cmpR op_eq (pv 3) pe_int (nomark _)) (pss_cons (ps_if (pt_val (pe_call G_chance (hr.mono (by omega)) (by rfl) D_chance.g D_chance.F.kp D_chance.b .nil pass0 (pa_cons (pv 0) (pa_cons pe_int pa_nil)))) (pss_one (ps_ret (pe_callB (call_minI rfl) (by rfl) B.min (by decide +kernel) (pa_cons (pe_op op_add (pv 1) pe_int) (pa_cons (pv 2) pa_nil))))) pss_nil)
      (pss_one (ps_ret (pe_callB (call_maxI rfl) (by rfl) B.max (by decide +kernel) (pa_cons (pe_op op_sub (pv 2) pe_int) (pa_cons (pv 1) pa_nil)))))) pss_nil)
      (pss_one (ps_ret (pe_op op_add (pv 1) (pe_call G_take (hr.mono (by omega)) (by rfl) D_take.g D_take.F.kp D_take.b .nil pass0 (pa_cons (pv 0) (pa_cons (pe_op op_add (pe_op op_sub (pv 2) (pv 1)) pe_int) pa_nil)))))))))), ?_⟩
    walk_at "st"
    refine ⟨a, c, _, rfl, S, by decide, fun v H1 S1 b1 ⟨r, e, r0, r1⟩ => ?_⟩
    subst e
    walk_at "st"
    refine ite2 (fun _ => q _ _ S1 b1 ⟨_, rfl, by omega, by omega⟩) (fun _ => ?_)
    walk_at "st"
    refine ite2 (fun _ => q _ _ S1 b1 ⟨_, rfl, by omega, by omega⟩) (fun _ => ?_)
    walk_at "st"
    refine ite2 (fun _ => ?_) (fun _ => ?_)
    · walk_at "st"
      refine ⟨a, c, _, rfl, S1, by decide, fun v H2 S2 b2 ⟨k, e⟩ => ?_⟩
      subst e
      walk_at "rt"
      refine ite2 (fun _ => q _ _ S2 (b1.trans b2) ⟨_, rfl, by split <;> omega, by split <;> omega⟩) (fun _ => q _ _ S2 (b1.trans b2) ⟨_, rfl, by split <;> omega, by split <;> omega⟩)
    · walk_at "rt"
      refine ⟨a, c, _, rfl, S1, by omega, fun v H2 S2 b2 ⟨k, e, k0, k1⟩ => ?_⟩
      subst e
      walk_at "rt"
      exact q _ _ S2 (b1.trans b2) ⟨_, rfl, by omega, by omega⟩
end
end K01
/-! a list comprehension where p's exception is handled -/
namespace HotLc
open PySem PySem.Spec PyProof.Rows L2 L2H
/-- the block's context, p pinned in it -/
abbrev hbk (X : Cx) (p : Addr × Obj) (s : Shared) (H : Hp) (sc : Scope) (ce : Env) (fp : List Addr) : Cx := (X.blk s H sc ce fp).tr [p] (fun _ _ => False)
theorem hot_hbk {X : Cx} {p : Addr × Obj} {s : Shared} {H : Hp} {sc : Scope} {ce : Env} {fp : List Addr} (hot : Hot1 X.A p) : HotC (hbk X p s H sc ce fp) := ⟨p, hot, List.mem_singleton.mpr rfl⟩
section
variable {X : Cx} {elt tg iter : Expr} {ifs : List Expr} {scope : Scope} {own : List (Str × Nat)} {pos : Pos} {wi : TI} {g : TG} {tt : TT} {te : TE}
/-- what the block's pieces are to be -/
structure Parts (X : Cx) (p : Addr × Obj) (scope : Scope) (elt tg : Expr) (ifs : List Expr) (g : TG) (tt : TT) (te : TE) : Prop where
  tgt : ∀ s H C cl fp, PG (hbk X p s H scope (compEnvC scope cl C X.env) fp) tg g
  tst : ∀ s H C cl fp, PTs (hbk X p s H scope (compEnvC scope cl C X.env) fp) ifs tt
  elm : ∀ s H C cl fp, PE (hbk X p s H scope (compEnvC scope cl C X.env) fp) elt te
/-- the state at a turn's head -/
def Head (B : Cx) (fp : List Addr) (tn : Nat → Heap → Prop) (W : Nat → Nat → Hp → Prop) (ω : L2.St) (n : Nat) (z : Shared) : Prop :=
  ∃ k G, W k n G ∧ Inv B [] ω G z ∧ tn k z.heap ∧ ∀ b ∈ fp, G b = none
theorem pe_lcH (hc : HotC X) (hN : X.N.Nodup) (hi : PIH X tg iter wi) (ok : BlkOk X.N X.env.scope scope own) (parts : ∀ p, Hot1 X.A p → Parts X p scope elt tg ifs g tt te)
    (hs : ∀ x, foldedSetIterable iter X.env x = pure x := by intro _; rfl) : PE X (.ListComp elt [⟨tg, iter, ifs, 0⟩] scope pos) (tLc wi g tt te (own.map (·.2))) := by
  obtain ⟨p, hot, inX⟩ := hc
  have P := parts p hot
  refine ⟨fun pins s σ H Q I want => ?_⟩
  rw [eval_ListComp]
  have caught : ∀ y ∈ scope.names, y.2 = .free → ∃ c, X.env.cells.lookup y.1 = some c := by
    intro y hy hf
    exact I.ok.has y.1 (ok.free y hy hf)
  refine wpAny_comprehension_free rfl hs (closure_ok caught) ok.kind (fun y hy e => (ok.uniq y hy).trans (congrArg some e)) ?_
  refine thn (hi.run pins s σ H _ I want) fun src sA hA => thn hA fun itv sB hB => ?_
  obtain ⟨it, fp, tn, J, HB, hit, IB, T, tB, fB, more⟩ := hB
  refine wpAny_newObj_type (newEnv_comp ?_) (Nat.zero_le sizeLine)
  -- the list that is made
  have nD : HB sB.heap.objs.size = none := IB.hok.fresh (Nat.le_refl _)
  obtain ⟨W, ⟨n0, w0⟩, turn⟩ := more _ nD
  obtain ⟨HC, eHC⟩ : ∃ G : Hp, G = L2.upd HB sB.heap.objs.size (.lst []) := ⟨_, rfl⟩
  obtain ⟨sC, eC⟩ : ∃ z : Shared, z = { sB with heap := sB.heap.push { cls := .type "list", data := .seq ([] : List Value).toArray } } := ⟨_, rfl⟩
  rw [← eHC] at w0
  have hpC : sC.heap = sB.heap.push { cls := .type "list", data := .seq ([] : List Value).toArray } := by rw [eC]
  have keepC : ∀ b o, sB.heap.get? b = some o → sC.heap.get? b = some o := by
    intro b o e
    rw [hpC]
    exact Heap.get?_push_of_some _ e
  have IC : Inv X pins σ HC sC := by
    rw [eHC, eC]
    refine IB.laid (t' := sB.toks) (fun b o e => Heap.get?_push_of_some _ e) (Nat.le_refl _) ⟨Nat.zero_le _, [], 0, .nil, ?_⟩
    exact Heap.get?_push_size _ rfl
  have small : ∀ b ∈ fp, b < sB.heap.objs.size := by
    intro b hb
    obtain ⟨o, e, _⟩ := T.obj _ _ tB b hb
    exact Heap.lt_size e
  have fC : ∀ b ∈ fp, FpOk X pins HC b ∧ b < sC.heap.objs.size := by
    intro b hb
    have lt := small b hb
    refine ⟨⟨?_, (fB b hb).2⟩, ?_⟩
    · rw [eHC, upd_ne (Nat.ne_of_lt lt)]
      exact (fB b hb).1
    · rw [hpC, Heap.size_push]
      exact Nat.lt_succ_of_lt lt
  -- the block begins
  have IB0 := block_start IC ok hN fC
  have pB := IC.pin p (List.mem_append_left _ inX)
  have pt := P.tst sC HC sC.heap.objs.size (cellsFrom (sC.heap.objs.size + 1) scope.names (cloFrom X.env.cells scope.names [])) fp
  have pg := P.tgt sC HC sC.heap.objs.size (cellsFrom (sC.heap.objs.size + 1) scope.names (cloFrom X.env.cells scope.names [])) fp
  have pe := P.elm sC HC sC.heap.objs.size (cellsFrom (sC.heap.objs.size + 1) scope.names (cloFrom X.env.cells scope.names [])) fp
  rw [hit, ← eC]
  obtain ⟨ce, eE⟩ : ∃ e : Env, e = compEnvC scope (cellsFrom (sC.heap.objs.size + 1) scope.names (cloFrom X.env.cells scope.names [])) sC.heap.objs.size X.env := ⟨_, rfl⟩
  rw [← eE] at IB0 pt pg pe
  have eL : ce.locals = sC.heap.objs.size := by rw [eE]; rfl
  have IE : Inv (hbk X p sC HC scope ce fp) [] (wipe σ (own.map (·.2))) HC { sC with heap := pushCells (sC.heap.push { cls := .type "dict", data := .dict #[] }) scope.names } := by
    refine (IB0.pins_of (pins' := [p]) fun q hq => ?_).toTry _
    obtain rfl := List.mem_singleton.mp hq
    refine ⟨pushCells_keeps _ _ _ _ (Heap.get?_push_of_some _ pB.1), pB.2.1, ?_, ?_, pB.2.2.2.2⟩
    · show q.1 ≠ ce.locals
      rw [eL]
      exact Nat.ne_of_lt (Heap.lt_size pB.1)
    · intro hm
      rcases List.mem_cons.mp (IC.stkSub q.1 hm) with z | z
      · exact pB.2.2.1 z
      · exact pB.2.2.2.1 z
  have clean : ∀ {ω : L2.St} {G : Hp} {z : Shared}, Inv (hbk X p sC HC scope ce fp) [] ω G z → (∀ b ∈ fp, G b = none) → ∀ b ∈ fp, FpOk (hbk X p sC HC scope ce fp) [] G b := by
    intro ω G z IZ gn b hb
    refine ⟨gn b hb, (IZ.ok.exf b hb).1, IZ.ok.exfs b hb, .inl hb, fun x c e => (IZ.ok.exf b hb).2 x c e, fun q hq => ?_⟩
    obtain rfl : q = p := by simpa using hq
    exact (fC b hb).1.2.2.2.2.2 _ (List.mem_append_left _ inX)
  obtain ⟨sE, eS⟩ : ∃ z : Shared, z = { sC with heap := pushCells (sC.heap.push { cls := .type "dict", data := .dict #[] }) scope.names } := ⟨_, rfl⟩
  rw [← eS] at IE
  have tE : tn 0 sE.heap := by
    refine T.keep _ _ _ tB fun b _ o e => ?_
    rw [eS]
    exact pushCells_keeps _ _ _ _ (Heap.get?_push_of_some _ (keepC b o e))
  have run : codeAny (model X.prog X.w) X.A (.compLoop (.ListComp elt [⟨tg, iter, ifs, 0⟩] scope pos) 0 (.ref it) (.ref sB.heap.objs.size) ce) (compPost (model X.prog X.w) X.A X.xe none (EP X pins σ Q) (.ref sB.heap.objs.size) sC.heap.objs.size) sE := by
    refine compLoop_any (Head (hbk X p sC HC scope ce fp) fp tn W (wipe σ (own.map (·.2)))) ?_ n0 ⟨0, HC, w0, IE, tE, fun b hb => (fC b hb).1.1⟩
    rintro n z ⟨k, G, w, IZ, tz, gn⟩
    have cz := clean IZ gn
    cases turn k n G w with
    | inl e =>
      refine thnF (T.done (hbk X p sC HC scope ce fp) rfl rfl rfl (hot_hbk hot) k [] z _ G (fun _ _ => False) IZ cz tz e.1) fun r y hy => ?_
      obtain ⟨hr, IY⟩ := hy
      subst hr
      have IX : Inv X pins σ G y := IC.call' (ch := fp) IY.os IY.base IY.hok IY.bare fun b hb => by
        obtain ⟨_, f1, f2, f3, f4, f5⟩ := (fC b hb).1
        exact ⟨f3, f1, f4, f5⟩
      have nC : G sC.heap.objs.size = none := eL ▸ IY.free
      obtain ⟨m, hm, _⟩ := IY.loc
      refine ⟨m, eL ▸ hm, fun h' sb => ?_⟩
      obtain ⟨f0, f1, f2, f3, f4, f5⟩ := IC.fpOk (Nat.le_refl _) nC
      exact ⟨V.ref sB.heap.objs.size, G, IX.turned (t' := y.toks) (fun b o hb e' => (sb.2 b hb).trans e') f0 f1 f3 f4 f5, rfl, e.2⟩
    | inr e =>
      obtain ⟨go, Nx, next, step⟩ := e
      refine thnF (T.item (hbk X p sC HC scope ce fp) rfl rfl rfl (hot_hbk hot) k [] z _ G (fun _ _ => False) IZ cz tz go) fun r y hy => ?_
      obtain ⟨u, hr, hy⟩ := hy
      subst hr
      refine thnF hy fun _ y1 hy1 => ?_
      obtain ⟨x, G1, I1, rx, yl, t1, g1⟩ := hy1
      have I2 := I1.pinned (clean I1 g1) (T.obj _ _ t1)
      refine thnF (pg.run _ y1 _ G1 x u _ I2 rx (step x G1 yl)) fun _ y2 hy2 => ?_
      obtain ⟨ω, G2, I3, same, q3⟩ := hy2
      refine thnF (pt.run _ y2 ω G2 _ I3 q3) fun b y3 hy3 => ?_
      obtain ⟨G3, I4, q4⟩ := hy3
      have close : ∀ {y' : Shared} {G' : Hp}, Inv (hbk X p sC HC scope ce fp) ([] ++ pinsAt fp y1.heap) ω G' y' → Nx G' → ∃ m, m < n ∧ Head (hbk X p sC HC scope ce fp) fp tn W (wipe σ (own.map (·.2))) m y' := by
        intro y' G' I' nx
        obtain ⟨m, lt, w'⟩ := next G' nx
        have stay : ∀ b ∈ fp, ∀ o, y1.heap.get? b = some o → y'.heap.get? b = some o ∧ G' b = none := by
          intro b hb o e'
          have z' := I'.pin (b, o) (List.mem_append_right _ (List.mem_append_right _ (mem_pinsAt hb e')))
          exact ⟨z'.1, z'.2.1⟩
        have len : (wipe σ (own.map (·.2))).length = ω.length := by rw [← same, wipe_length]
        refine ⟨m, lt, k + 1, G', w', (I'.unpinned (pins := [])).weak len (fun j v e' => ?_), T.keep _ _ _ t1 fun b hb o e' => (stay b hb o e').1, fun b hb => ?_⟩
        · rw [← same] at e'
          exact (wipe_some e').1
        · obtain ⟨o, e', _⟩ := T.obj _ _ t1 b hb
          exact (stay b hb o e').2
      cases b with
      | true =>
        have q4 : te ω G3 _ := q4
        refine thnF (pe.run _ y3 ω G3 _ I4 q4) fun v y4 hy4 => ?_
        obtain ⟨yv, G4, I5, ry, acc, hD, hz, nx⟩ := hy4
        exact app_ok (X := hbk X p sC HC scope ce fp) I5 hD hz ry fun y5 I6 => close I6 nx
      | false => exact close I4 q4
  rw [eE, eS] at run
  rw [eS] at tE
  exact codeAny_compStart_list run (T.self X.A 0 _ _ _ tE run)
end
end HotLc
/-! a def that is handed the exception which is handled; isinstance of it -/
namespace HotExc
open PySem PySem.Spec PyProof.Rows L2 L2H
/-- isinstance(e, c), e an exception that stands pinned, its own dict (where it has one) tracked -/
def rIsP (K : PySem.W.Frag) (D a : Addr) (d : Option Addr) (xs : List V) (H : Hp) (Q : VK) : Prop :=
  ∃ c, xs = [.ref a, c] ∧ ∃ cv : Value, (∀ u, RelV c u → u = cv) ∧ ∃ b, PySem.W.kitOne K (.ref D) cv = some b ∧ (∀ dx, d = some dx → ∃ fs, H dx = some (.xd fs)) ∧ Q (.bl b) H
theorem call_isP {X : Cx} {a D : Addr} {oe : Obj} {d : Option Addr} (C : ExcC X.K D) (hp : (a, oe) ∈ X.pn) (hz : Zc (.ref D) d oe) (hf : ∃ vs, oe.data = .fields vs) : CallR X (.builtin "isinstance") (rIsP X.K D a d) := by
  intro pins s σ H xs us Q I r want
  obtain ⟨c, rfl, cv, only, b, hb, hd, q⟩ := want
  match us, r with
  | [u, u2], .cons ru (.cons r2 .nil) =>
    obtain rfl : u = Value.ref a := ru
    obtain rfl := only _ r2
    have pinned := (I.pin (a, oe) (List.mem_append_left _ hp)).1
    obtain ⟨vs, hv⟩ := hf
    have nc : PySem.W.notCls oe = true := by
      unfold PySem.W.notCls
      rw [hv]
    have J : ∃ od, PySem.W.InstAt s.heap a oe D od := by
      cases d with
      | none => exact ⟨none, pinned, hz.1, nc, by rw [hz.2]; trivial⟩
      | some dx =>
        obtain ⟨fs, e⟩ := hd dx rfl
        have ob : ObjOk X.prog X.w H s.heap dx (.xd fs) := I.hok dx _ e
        obtain ⟨mA, hns, _⟩ := ob
        obtain ⟨od, ho, _⟩ := lookIn_ns hns
        exact ⟨some od, pinned, hz.1, nc, by rw [hz.2]; exact ho⟩
    obtain ⟨od, J⟩ := J
    have hcl : (PySem.W.clsIn X.K D).isSome = true := by
      obtain ⟨cd, hc, _⟩ := PySem.W.any_some C.hd
      rw [hc]
      rfl
    exact PySem.W.kia_one (PySem.W.kitx_exc hcl C.hg C.hk C.hs C.ha C.hn C.ht C.hm) I.kIn J hb (fun z => nomatch z) fun tk => ⟨.bl b, H, I.kept (t' := tk) fun _ _ z => z, rfl, q⟩
/-- what a def promises that is called while p's exception is handled, and is told of it -/
structure FnE (P : Program) (w : World) (K : PySem.W.Frag) (mg : Str → Option Value) (base : Heap) (CX : CXT) (k : Nat) (f : Addr) (fd : FuncData) (ps : List Str) (sp : Addr × Obj → Sp) : Prop where
  size : ∀ p vs H Q E, sp p vs H Q E → vs.length = ps.length
  go : ∀ (p : Addr × Obj) (A : Around) (outer : List Env) (s : Shared) (H : Hp) (us : List Value) (vs : List V) (Q : VK) (E : XK), RoomH k A → Hot1 A p → PinOk outer H s p → Env0 P w K mg base A outer s H → BindsTo s fd ⟨us, []⟩ (ps.zip us) → Vals vs us → sp p vs H Q E →
    codeAny (model P w) A (.call (.ref f) ⟨us, []⟩) (CR CX outer P w H s Q E) s
theorem FnE.of {CX : CXT} {P : Program} {w : World} {K : PySem.W.Frag} {mg : Str → Option Value} {base : Heap} {k : Nat} {x qual : Str} {st : Stmt} {f : Addr} {fd : FuncData} {N ps : List Str} {sp : Addr × Obj → Sp} (F : Fun K x qual st f fd) (S : FnScope N ps (defScope st))
    (size : ∀ p vs H Q E, sp p vs H Q E → vs.length = ps.length)
    (body : ∀ (p : Addr × Obj) (cdv : Value) (A : Around) (outer : List Env) (s : Shared) (H : Hp) (vs : List V) (Q : VK) (E : XK), Hot1 A p → RoomH k (A.deeper (envOfC qual (defScope st) s.heap.objs.size f cdv)) → sp p vs H Q E →
      ∃ t, PSs (cxH CX P w K mg base N qual (defScope st) f cdv A outer s H E p) (defBody st) t ∧ t { nx := fun _ H' => Q .non H', rt := Q } (L2.start N vs) H) : FnE P w K mg base CX (k + 1) f fd ps sp := by
  obtain ⟨oc, od, kV, doc, pm, an, cdv, ct, osl, rfl, lk, hcd⟩ := F.ex
  refine ⟨size, ?_⟩
  intro p A outer s H us vs Q E room hot pin e0 hb r want
  have n := size _ _ _ _ _ want
  have inK : K.In s.heap := e0.mod.kin.keeps fun b o z => (e0.bs b o z).1
  have noLim := e0.mod.nolimit.keeps fun b o z => (e0.bs b o z).1
  have kinds : ∀ y ∈ ps.zip us, (defScope st).names.lookup y.1 = some .local ∨ ((defScope st).names.lookup y.1 = some .cell ∧ ((cellsFrom (s.heap.objs.size + 1) (defScope st).names []).lookup y.1).isSome = true) := by
    rintro ⟨m, v⟩ hy
    cases S.par m (List.of_mem_zip hy).1 with
    | inl q => exact .inl q
    | inr q => exact .inr ⟨q, PySem.W.cellsFrom_some _ _ _ (.inl q)⟩
  refine codeAny_call_function room.depth (inK _ _ lk) rfl S.co S.gen rfl (PySem.W.codeRec_of inK hcd) (hb _ _ _ _ ?_)
  refine wpAny_newFunctionEnv_cells S.kind kinds fun env he s1 y => ?_
  subst he
  refine ⟨noLim.keeps y.toInCall.keep, codeAny_func ?_⟩
  obtain ⟨t, runs, reads⟩ := body p cdv A outer s H vs Q E hot (room.deeper _) want
  have start := inv_startH (CX := CX) (E := E) S pin e0 n r y
  refine wpAny_mono (runs.run [] s1 (L2.start N vs) H _ start reads) (fun fl s' hs => ?_) fun _ _ z => z
  match fl, hs with
  | .ret u, ⟨v, σ', H', J, rv, q⟩ => exact ⟨v, H', J.os, J.bare, J.base, J.hok, rv, q⟩
  | .next, ⟨σ', H', J, q⟩ => exact ⟨.non, H', J.os, J.bare, J.base, J.hok, rfl, q⟩
  | .brk, ⟨_, _, _, q⟩ => exact q.elim
  | .cont, ⟨_, _, _, q⟩ => exact q.elim
section
variable {X : Cx} {CX : CXT} {k : Nat} {f : Addr} {fd : FuncData} {ps : List Str} {sp : Addr × Obj → Sp} {E : L2.St → XK} {x : Str} {q pos : Pos} {e : Expr} {es : List Expr} {t : TA}
/-- the call of such a def, p pinned -/
theorem pe_callE {p : Addr × Obj} (F : FnE X.prog X.w X.K X.mg X.base CX k f fd ps sp) (room : RoomH k X.A) (hot : Hot1 X.A p) (inX : p ∈ X.pn) (hg : Gl X x) (hm : X.mg x = some (.ref f)) (hk : PySem.W.keepIn X.K (.ref f) = true) (hb : Binds X.K fd ps []) (hx : ∀ σ, PassesAt CX X σ (E σ))
    (ha : PA X (e :: es) t) (hdb : (x == ("__debug__" : Str)) = false := by decide) (he : starEach (e :: es) X.env = (false, eval e X.env) :: starEach es X.env := by rfl) (hpl : (backTo pos (starEach es X.env)).any (·.1) = false := by rfl) :
    PE X (.Call (.Name x q) (e :: es) [] pos) (tCallS (sp p) E t) := by
  refine ⟨fun pins s σ H Q I want => ?_⟩
  refine wpAny_Call_Name_kw (ld_glob I hg hm ?_ hdb)
  refine PySem.W.callWith_K (h₀ := X.base) I.ok.mod.kin hk (thn (ha.run pos pins s σ H _ I want) fun us s1 ⟨vs, H1, I1, r, want1⟩ => ⟨I1.kIn, ?_⟩) he hpl
  have n : us.length = ps.length := by
    rw [← r.length]
    exact F.size _ _ _ _ _ want1
  have b := hb s1 us I1.kIn (by rw [List.append_nil]; exact n)
  rw [List.append_nil] at b
  have P1 := I1.pin p (List.mem_append_left _ inX)
  have pin : PinOk X.stack H1 s1 p := by
    refine ⟨P1.1, P1.2.1, fun hm => ?_, P1.2.2.2.2⟩
    cases List.mem_cons.mp (I1.stkSub p.1 hm) with
    | inl z => exact P1.2.2.1 z
    | inr z => exact P1.2.2.2.1 z
  refine wpAny_call (codeAny_mono (F.go p X.A X.stack s1 H1 us vs Q (E σ) room hot pin I1.env0 b r want1) fun r s' out => ?_)
  match r, out with
  | .error e, out => exact hx σ pins H1 s1 e s' I1 out
  | .ok (.ret u), out => exact I1.after out
  | .ok .next, out => exact out.elim
  | .ok .brk, out => exact out.elim
  | .ok .cont, out => exact out.elim
end
/-- C(e, ..) with an own __init__, the context of what is made None -/
theorem pmkN {X : Cx} {CX : CXT} {x : Str} {C fI : Addr} {k : Nat} {fd : FuncData} {ps : List Str} {sp : Sp} {e : Expr} {es : List Expr} {ta : TA} {p pos : Pos} (T : OexC X.K C) (hi : PySem.W.findIn X.K (.ref C) "__init__" = some (some (.ref fI))) (ti : PySem.W.typeIn X.K (.ref fI) = some (.type "function"))
    (Fi : FnOk X.prog X.w X.K X.mg X.base CX k fI fd ps sp) (room : Room (k + 1) X.A) (hb : Binds X.K fd ps []) (hx : Passes CX X (fun _ _ _ => False)) (hg : Gl X x) (hm : X.mg x = some (.ref C)) (ha : PA X (e :: es) ta)
    (hdb : (x == ("__debug__" : Str)) = false := by decide) (he : starEach (e :: es) X.env = (false, eval e X.env) :: starEach es X.env := by rfl) (hpl : (backTo pos (starEach es X.env)).any (·.1) = false := by rfl) :
    L2N.PMk X (.Call (.Name x p) (e :: es) [] pos) (tMkO C sp [] ta) := by
  intro pins s σ H Q I want
  obtain ⟨nm, ql, N, bs, bm, sn, sub, ab, col, dd, k0, k1, k2, k3, k5, atC, chain⟩ := T.cls
  refine wpAny_Call_Name_kw (ld_glob I hg hm ?_ hdb)
  refine PySem.W.callWith_K (h₀ := X.base) I.ok.mod.kin T.kC (thn (ha.run pos pins s σ H _ I want) fun us s1 got => ?_) he hpl
  obtain ⟨vs, H1, I1, r1, few, q1⟩ := got
  refine ⟨I1.kIn, ?_⟩
  obtain ⟨hp, g, dr, tk, os⟩ := s1
  have up : hp.objs.size ≤ hp.objs.size + 1 := Nat.le_add_right _ _
  have want1 := q1 (hp.objs.size + 1) (I1.hok.fresh up)
  rw [List.append_nil] at want1
  obtain ⟨hp', eh⟩ : ∃ z, z = (hp.push (PySem.W.kdv_tup us)).push (PySem.HandSPX.excO C hp.objs.size) := ⟨_, rfl⟩
  have keep : ∀ b o, hp.get? b = some o → hp'.get? b = some o := by
    intro b o z
    rw [eh]
    exact (Heap.get?_push_of_some _ (Heap.get?_push_of_some _ z))
  have there : hp'.get? (hp.objs.size + 1) = some (PySem.HandSPX.excO C hp.objs.size) := by
    rw [eh]
    heap_get
  have I2 : Inv X pins σ (L2.upd H1 (hp.objs.size + 1) (exo (hp.objs.size + 1) C none)) ⟨hp', g, dr, tk, os⟩ := I1.laid (t' := tk) keep up (exo_ok there)
  have r2 : Vals (V.ref (hp.objs.size + 1) :: vs) (Value.ref (hp.objs.size + 1) :: us) := .cons rfl r1
  have n : (Value.ref (hp.objs.size + 1) :: us).length = ps.length := by
    rw [← r2.length]
    exact Fi.len _ _ _ _ want1
  have b := hb ⟨hp', g, dr, tk, os⟩ (Value.ref (hp.objs.size + 1) :: us) I2.kIn (by rw [List.append_nil]; exact n)
  rw [List.append_nil] at b
  have short : us.length ≤ sizeLine := by
    rw [← r1.length, sizeLine_eq]
    omega
  refine wpAny_call (PySem.HandSPX.call_own F.excBase_ValueError (fun Y => PySem.HandSPX.refsVE_contains Y bm chain) (I1.kIn _ _ atC) (PySem.W.looks_findIn I1.kIn hi) (fun self => PySem.W.bind_fn I1.kIn self ti) short ?_)
  rw [List.nil_append, ← eh]
  refine codeAny_mono (Fi.run _ X.stack _ _ ⟨Value.ref (hp.objs.size + 1) :: us, []⟩ _ _ _ (fun _ _ _ => False) (room.make C us []) (I2.env0.make C us []) b r2 want1) fun r s' out => ?_
  match r, out with
  | .error er, out => exact hx pins σ _ _ er s' I2 out
  | .ok (.ret u), out =>
    obtain ⟨v, H2, os2, bare2, un2, hok2, rv, ev, d, fs, ea, ed, hd1, q2⟩ := out
    subst ev
    obtain ⟨h2, g2, d2, t2, os'⟩ := s'
    refine ⟨rv, ?_⟩
    obtain ⟨t0, G, J, kG, ge, hoe, na⟩ := mk_end0 (d2 := d2) (t2 := t2) I1 up keep un2 hok2 os2 bare2 ea ed hd1
    exact ⟨_, _, _, ⟨G, g2, d2, t2, os'⟩, _, .ref C, some d, rfl, J, kG, ge, hoe, ⟨rfl, rfl, fun vs z => by cases z; rfl⟩, rfl, rfl, na, rfl, bare2, raises_own T.exC T.tyC, q2⟩
  | .ok .next, out => exact out.elim
  | .ok .brk, out => exact out.elim
  | .ok .cont, out => exact out.elim
end HotExc
/-! d.get(k), d a dict of the module that stands as it was written -/
namespace HotExc
open PySem PySem.Spec PyProof.Rows L2
/-- what such a dict says of a key -/
def Says (K : PySem.W.Frag) (a : Addr) (z : Str) (v : V) : Prop := ∃ r, PySem.W.nsIn K a z = some r ∧ ((∃ u, r = some u ∧ RelV v u) ∨ (r = none ∧ v = .non))
def Writ (K : PySem.W.Frag) (w : World) (a : Addr) : Prop := ∃ es n, K.lookup a = some ⟨.type "dict", none, .dict es n, #[]⟩ ∧ PySem.W.KeysLit w.params es.toList ∧ (a == sysModules) = false
def tKGet (K : PySem.W.Frag) (w : World) (td ty : TE) : TE := fun σ H Q => td σ H fun x H1 => ∃ a, x = .ref a ∧ Writ K w a ∧ ty σ H1 fun y H2 => ∃ z, y = .str z ∧ ∃ v, Says K a z v ∧ Q v H2
section
variable {X : Cx} {o e : Expr} {apos cpos : Pos} {td ty : TE}
theorem pe_kget (ho : PE X o td) (he : PE X e ty) (m : M1 X o "get" apos e cpos) : PE X (.Call (.Attribute o "get" apos) [e] [] cpos) (tKGet X.K X.w td ty) := by
  refine ⟨fun pins s σ H Q I want => ?_⟩
  refine wpAny_Call_method m.base m.few m.line PySem.F.plainAttrs_dict PySem.F.slot_dict_get PySem.F.type_dict_get (thn (ho.run pins s σ H _ I want) fun u s1 got => ?_)
  obtain ⟨x, H1, I1, rx, a, rfl, ⟨es, n, at_, keys, low⟩, q1⟩ := got
  obtain rfl : u = Value.ref a := rx
  have is1 := PySem.W.mapOf_K (prog := X.prog) (w := X.w) I1.kIn at_ keys
  refine ⟨is1.typeIs, fun b eb => ?_, ?_⟩
  · cases eb
    exact ⟨_, I1.kIn _ _ at_, rfl⟩
  rw [m.trees]
  refine Calls.callWith_builtin rfl (Calls.evalArgs_plain (Calls.spliced_cons (thn (he.run pins s1 σ H1 _ I1 q1) fun iv s2 got => Calls.spliced_nil ?_)))
  obtain ⟨y, H2, I2, ry, z, rfl, v, ⟨r, er, hv⟩, q2⟩ := got
  obtain ⟨t, rfl⟩ := (show ∃ t, iv = Value.str z t from ry)
  have is2 := PySem.W.mapOf_K (prog := X.prog) (w := X.w) I2.kIn at_ keys
  have ef : findBy Value.isStrOf es z = r := PySem.W.find_K at_ er
  refine call_meetsIn PySem.F.slot_dict_get is2.typeIs PySem.F.entry_dict_get (PySem.F.args_dict_get_2 _ _) (meets_dict_get (strKind X.prog X.w) a (strKind_is X.prog X.w z t) low) ⟨_, is2, ⟨v, H2, I2.tok _, ?_, q2⟩⟩
  show RelV v ((findBy Value.isStrOf es z).getD .none)
  rw [ef]
  rcases hv with ⟨u, rfl, ru⟩ | ⟨rfl, rfl⟩
  · exact ru
  · rfl
end
end HotExc
/-! f(e, .., k = v, ..) in a try's body: what may come out depends on the slots -/
namespace HotExc
open PySem PySem.Spec PyProof.Rows L2
def tCallKS (sp : Sp) (gV : List V → List V → List V) (E : L2.St → XK) (t tk : TA) : TE := fun σ H Q => t σ H fun vs H1 => tk σ H1 fun zs H2 => sp (gV vs zs) H2 Q (E σ)
theorem pe_callKS {X : Cx} {CX : CXT} {k : Nat} {f : Addr} {fd : FuncData} {ps ks : List Str} {sp : Sp} {E : L2.St → XK} {x : Str} {p pos : Pos} {e : Expr} {es : List Expr} {kws : List Keyword} {t tk : TA} {g : List Value → List Value → List Value} {gV : List V → List V → List V}
    (F : FnOk X.prog X.w X.K X.mg X.base CX k f fd ps sp) (room : Room k X.A) (hg : Gl X x) (hm : X.mg x = some (.ref f)) (hk : PySem.W.keepIn X.K (.ref f) = true) (hb : KBinds X.K fd ps ks g gV) (hx : ∀ σ, PassesAt CX X σ (E σ))
    (ha : PA X (e :: es) t) (hkw : PK X kws tk) (hall : (backToKw pos (keywordEach kws X.env)).all (·.1.isSome) = true := by rfl) (hks : (backToKw pos (keywordEach kws X.env)).filterMap (·.1) = ks := by rfl)
    (hdb : (x == ("__debug__" : Str)) = false := by decide) (he : starEach (e :: es) X.env = (false, eval e X.env) :: starEach es X.env := by rfl)
    (hpl : ((backTo pos (starEach (e :: es) X.env)).any (·.1) || (backToKw pos (keywordEach kws X.env)).any (·.1.isNone)) = false := by rfl) : PE X (.Call (.Name x p) (e :: es) kws pos) (tCallKS sp gV E t tk) := by
  refine ⟨fun pins s σ H Q I want => ?_⟩
  refine wpAny_Call_Name_kw (ld_glob I hg hm ?_ hdb)
  refine PySem.W.callWith_KW (h₀ := X.base) I.ok.mod.kin hk hall (thn (ha.run pos pins s σ H _ I want) fun us s1 got => ?_) hpl he
  obtain ⟨vs, H1, I1, r1, want1⟩ := got
  refine thn (hkw.run pos pins s1 σ H1 _ I1 want1) fun ws s2 got => ?_
  obtain ⟨zs, H2, I2, rz, want2⟩ := got
  refine ⟨I2.kIn, ?_⟩
  rw [hks]
  have r2 := hb.rel r1 rz
  have n : (g us ws).length = ps.length := by
    rw [← r2.length]
    exact F.len _ _ _ _ want2
  refine wpAny_call (codeAny_mono (F.run X.A X.stack s2 H2 ⟨us, ks.zip ws⟩ (g us ws) (gV vs zs) Q (E σ) room I2.env0 (hb.to s2 us ws I2.kIn n) r2 want2) fun r s' out => ?_)
  match r, out with
  | .error e, out => exact hx σ pins H2 s2 e s' I2 out
  | .ok (.ret u), out => exact I2.after out
  | .ok .next, out => exact out.elim
  | .ok .brk, out => exact out.elim
  | .ok .cont, out => exact out.elim
end HotExc
namespace K01
open PySem PySem.Spec PyProof.Rows L2
/-! ### lists, copied and turned -/
def rListOf (K : PySem.W.Frag) (xs : List V) (H : Hp) (Q : VK) : Prop := ∃ p, xs = [V.ref p] ∧ ∃ ys, (SqL K H p ys ∨ SqT K H p ys) ∧ ∀ l, H l = none → Q (.ref l) (L2.upd H l (.lst ys))
theorem call_listK {X : Cx} {K : PySem.W.Frag} (h : X.K = K := by rfl) : CallR X (.type "list") (rListOf K) := callR_mono (h ▸ call_list_of) fun _ _ _ ⟨p, e, ys, h1, q⟩ => ⟨p, ys, e, h1, q⟩
theorem pe_revLK {X : Cx} {K : PySem.W.Frag} {e : Expr} {te : TE} {k : Nat} {p1 p2 p3 pos : Pos} (he : PE X e te) (h : X.K = K := by rfl) : PE X (.Subscript e (.Slice none none (some (.UnaryOp .USub (.Constant (.int 1) k p1) p2)) p3) pos) (tRevL K te) := h ▸ pe_revL he
theorem cut_to {xs : List V} {i : Nat} (h : i ≤ xs.length) : cutV xs none (some (i : Int)) = xs.take i := by
  unfold cutV
  rw [HT.sIx_none, HT.sIx_nat, List.drop_zero, Nat.sub_zero, Nat.min_eq_left h]
theorem cut_from {xs : List V} {i : Nat} (h : i ≤ xs.length) : cutV xs (some (i : Int)) none = xs.drop i := by
  unfold cutV
  rw [HT.sIx_none, HT.sIx_nat, Nat.min_eq_left h]
  exact List.take_of_length_le (by rw [List.length_drop]; omega)
theorem perm_pick {xs : List V} {i : Nat} {v : V} (h : xs[i]? = some v) : (v :: (xs.take i ++ xs.drop (i + 1))).Perm xs := by
  have hi := lt_of_get h
  have e : xs = xs.take i ++ v :: xs.drop (i + 1) := by
    have e2 := (List.getElem?_eq_some_iff.mp h).2
    rw [← e2, ← List.drop_eq_getElem_cons hi, List.take_append_drop]
  conv => rhs; rw [e]
  exact (List.perm_middle).symm
end K01
/-! own words for the draws, dicts, comprehensions with a test, exceptions -/
namespace HotExc
open PySem PySem.Spec PyProof.Rows L2 L2H
theorem pe_imp {X : Cx} {e : Expr} {t t' : TE} (h : PE X e t) (k : ∀ σ H Q, t' σ H Q → t σ H Q) : PE X e t' := ⟨fun pins s σ H Q I q => h.run pins s σ H Q I (k _ _ _ q)⟩
theorem ps_imp {X : Cx} {e : Stmt} {t t' : TS} (h : PS X e t) (k : ∀ D σ H, t' D σ H → t D σ H) : PS X e t' := ⟨fun pins s σ H D I q => h.run pins s σ H D I (k _ _ _ q)⟩
theorem takesN0 {X : Cx} : L2N.Takes X (fun _ _ _ _ => False) := fun _ _ x => by
  obtain ⟨_, _, _, _, _, _, _, _, _, _, _, _, _, _, _, _, w⟩ := x
  exact w.elim
/-- a call of a def that may raise, where it does not -/
theorem passS0 {X : Cx} : ∀ σ, PassesAt (L2N.CX X.prog X.w) X σ (WE (fun _ _ _ _ => False) σ) := fun σ => L2N.passAt takesN0 σ
def tCallSD (sp : Sp) (dvs : List V) (E : L2.St → XK) (t : TA) : TE := fun σ H Q => t σ H fun vs H1 => sp (vs ++ dvs) H1 Q (E σ)
theorem pe_callSD {X : Cx} {CX : CXT} {k : Nat} {f : Addr} {fd : FuncData} {ps : List Str} {sp : Sp} {dvs : List V} {ds : List Value} {E : L2.St → XK} {x : Str} {p pos : Pos} {e : Expr} {es : List Expr} {t : TA}
    (F : FnOk X.prog X.w X.K X.mg X.base CX k f fd ps sp) (hr : Room k X.A) (hg : Gl X x) (hm : X.mg x = some (.ref f)) (hk : PySem.W.keepIn X.K (.ref f) = true) (hb : Binds X.K fd ps ds) (hd : Vals dvs ds) (hx : ∀ σ, PassesAt CX X σ (E σ))
    (ha : PA X (e :: es) t) (hdb : (x == ("__debug__" : Str)) = false := by decide) (he : starEach (e :: es) X.env = (false, eval e X.env) :: starEach es X.env := by rfl) (hpl : (backTo pos (starEach es X.env)).any (·.1) = false := by rfl) :
    PE X (.Call (.Name x p) (e :: es) [] pos) (tCallSD sp dvs E t) := by
  refine ⟨fun pins s σ H Q I h => ?_⟩
  refine wpAny_Call_Name_kw (ld_glob I hg hm ?_ hdb)
  refine PySem.W.callWith_K (h₀ := X.base) I.ok.mod.kin hk (thn (ha.run pos pins s σ H _ I h) fun us s1 got => ?_) he hpl
  obtain ⟨vs, H1, I1, r, q⟩ := got
  refine ⟨I1.kIn, ?_⟩
  have r2 : Vals (vs ++ dvs) (us ++ ds) := r.append hd
  have hl : (us ++ ds).length = ps.length := by rw [← r2.length]; exact F.len _ _ _ _ q
  refine wpAny_call (codeAny_mono (F.run X.A X.stack s1 H1 ⟨us, []⟩ (us ++ ds) (vs ++ dvs) Q (E σ) hr I1.env0 (hb s1 us I1.kIn hl) r2 q) fun r s' hq => ?_)
  match r, hq with
  | .error e, hq => exact hx σ pins H1 s1 e s' I1 hq
  | .ok (.ret u), hq => exact I1.after hq
  | .ok .next, hq => exact hq.elim
  | .ok .brk, hq => exact hq.elim
  | .ok .cont, hq => exact hq.elim
/-! dicts with text keys that stand in H -/
def tG (td ty : TE) : TE := fun σ H Q => td σ H fun x H1 => ty σ H1 fun y H2 => ∃ a, x = .ref a ∧ ∃ z, y = .str z ∧ ∃ kvs, H2 a = some (.dK kvs) ∧ ∃ v, valV kvs (Sum.inr z) = some v ∧ Q v H2
def tG2 (td ty tx : TE) : TE := fun σ H Q => td σ H fun x H1 => ∃ a, x = .ref a ∧ ∃ kvs, H1 a = some (.dK kvs) ∧ ty σ H1 fun y H2 => tx σ H2 fun u H3 => ∃ z, y = .str z ∧ H3 a = some (.dK kvs) ∧ Q ((valV kvs (Sum.inr z)).getD u) H3
def sP (td ty tv : TE) : TS := fun D σ H => tv σ H fun v H1 => td σ H1 fun x H2 => ty σ H2 fun y H3 => ∃ a, x = .ref a ∧ ∃ z, y = .str z ∧ ∃ kvs, H3 a = some (.dK kvs) ∧ kvs.length < sizeLine ∧ D.nx σ (L2.upd H3 a (.dK (putK kvs (Sum.inr z) v)))
section
variable {X : Cx} {o i e f value : Expr} {pos pos' apos cpos : Pos} {td ty tx tv : TE}
theorem pe_gS (hu : X.A.units + 1 < cLine) (ho : PE X o td) (hi : PE X i ty) (hs : NoSl i) : PE X (.Subscript o i pos) (tG td ty) := by
  refine ⟨fun pins s σ H Q I h => ?_⟩
  refine subD_of PySem.F.slot_dict_getitem.lookup hs (thn (ho.run pins s σ H _ I h) fun u s1 ⟨x, H1, I1, rx, q1⟩ => thn (hi.run pins s1 σ H1 _ I1 q1) fun iv s2 ⟨y, H2, I2, ry, a, ex, z, ez, kvs, hk, v, hv, q2⟩ => ?_)
  subst ex
  obtain rfl : u = Value.ref a := rx
  have g : DGet H2 a y (some v) := by
    subst ez
    rw [← hv]
    exact DGet.k (k := Sum.inr z) hk
  exact ⟨dict_typeIs I2 g, d_getItem hu I2 g ry fun w' s3 I3 rw' => ⟨v, H2, I3, rw', q2⟩⟩
theorem ps_pS (hu : X.A.units + 1 < cLine) (ho : PE X o td) (hi : PE X i ty) (hv : PE X value tv) (hs : swapsWith value (some (.Subscript o i pos')) pos.line X.env = pure false) :
    PS X (.Assign [.Subscript o i pos'] value pos) (sP td ty tv) := by
  refine ⟨fun pins s σ H D I h => ?_⟩
  refine wpAny_Assign_Subscript (thn (hv.run pins s σ H _ I h) fun r s1 ⟨v, H1, I1, rv, q1⟩ => thn (ho.run pins s1 σ H1 _ I1 q1) fun u s2 ⟨x, H2, I2, rx, q2⟩ => thn (hi.run pins s2 σ H2 _ I2 q2) fun iv s3 ⟨y, H3, I3, ry, a, ex, z, ez, kvs, hk, hl, q3⟩ => ?_) hs
  subst ex
  obtain rfl : u = Value.ref a := rx
  have g : DPut H3 a y v (L2.upd H3 a (.dK (putK kvs (Sum.inr z) v))) := by
    subst ez
    exact DPut.k (k := Sum.inr z) hk hl
  exact d_setItem hu I3 g ry rv fun s4 I4 => ⟨σ, _, I4, q3⟩
theorem pe_gS2 (hu : X.A.units + 1 < cLine) (ho : PE X o td) (he : PE X e ty) (hf : PE X f tx) (m : M2 X o "get" apos e f cpos) : PE X (.Call (.Attribute o "get" apos) [e, f] [] cpos) (tG2 td ty tx) := by
  refine ⟨fun pins s σ H Q I h => ?_⟩
  refine wpAny_Call_method m.base m.few m.line PySem.F.plainAttrs_dict PySem.F.slot_dict_get PySem.F.type_dict_get (thn (ho.run pins s σ H _ I h) fun u s1 ⟨x, H1, I1, rx, a, ex, kvs, hk, q1⟩ => ?_)
  subst ex
  obtain rfl : u = Value.ref a := rx
  obtain ⟨d1, d2, _⟩ := isD_at I1 (.inl ⟨kvs, .inl hk⟩)
  refine ⟨d1, d2, ?_⟩
  rw [m.trees]
  refine Calls.callWith_builtin rfl (Calls.evalArgs_plain (Calls.spliced_cons (thn (he.run pins s1 σ H1 _ I1 q1) fun iv s2 ⟨y, H2, I2, ry, q2⟩ => Calls.spliced_cons (thn (hf.run pins s2 σ H2 _ I2 q2) fun dv s3 ⟨z, H3, I3, rz, zz, ez, hk3, q3⟩ => Calls.spliced_nil ?_))))
  have g : DGet H3 a y (valV kvs (Sum.inr zz)) := by
    subst ez
    exact DGet.k (k := Sum.inr zz) hk3
  exact d_get2 hu I3 g ry rz fun w' s4 I4 rw' => ⟨_, H3, I4, rw', q3⟩
end
def rTupOf (K : PySem.W.Frag) (xs : List V) (H : Hp) (Q : VK) : Prop := ∃ p, xs = [V.ref p] ∧ ∃ ys, SqL K H p ys ∧ ∀ l, H l = none → Q (.ref l) (L2.upd H l (.tup ys))
theorem call_tupK {X : Cx} {K : PySem.W.Frag} (h : X.K = K := by rfl) : CallR X (.type "tuple") (rTupOf K) := h ▸ fun pins s σ H xs us Q I r q => call_tuple_of pins s σ H xs us Q I r (by
  obtain ⟨p, e, ys, hs, q⟩ := q
  exact ⟨p, ys, e, .inl ⟨hs, q⟩⟩)
/-- isinstance(e, c) of the handled exception, whose class is told by the reading -/
def rIsZ (K : PySem.W.Frag) (cls : Value) (D a : Addr) (d : Option Addr) (xs : List V) (H : Hp) (Q : VK) : Prop := cls = .ref D ∧ rIsP K D a d xs H Q
theorem call_isZ {X : Cx} {K : PySem.W.Frag} {a D : Addr} {oe : Obj} {cls : Value} {d : Option Addr} (C : ExcC K D) (hp : (a, oe) ∈ X.pn) (hz : L2N.Zn cls d oe) (hf : ∃ vs, oe.data = .fields vs) (hk : X.K = K := by rfl) : CallR X (.builtin "isinstance") (rIsZ K cls D a d) := by
  subst hk
  intro pins s σ H xs us Q I r want
  obtain ⟨e, want⟩ := want
  exact call_isP C hp (by rw [← e]; exact hz.zc) hf pins s σ H xs us Q I r want
theorem r_isZ {K : PySem.W.Frag} {D a c : Addr} {d : Option Addr} {b : Bool} {H : Hp} {Q : VK} (hk : PySem.W.kitOne K (.ref D) (.ref c) = some b) (hd : ∀ dx, d = some dx → ∃ fs, H dx = some (.xd fs)) (q : Q (.bl b) H) : rIsZ K (.ref D) D a d [.ref a, .ref c] H Q :=
  ⟨rfl, _, rfl, .ref c, fun u r => r, b, hk, hd, q⟩
theorem r_isZV {K : PySem.W.Frag} {D a : Addr} {d : Option Addr} {b : Bool} {H : Hp} {Q : VK} (hk : PySem.W.kitOne K (.ref D) (.type "ValueError") = some b) (hd : ∀ dx, d = some dx → ∃ fs, H dx = some (.xd fs)) (q : Q (.bl b) H) : rIsZ K (.ref D) D a d [.ref a, .ty "ValueError"] H Q :=
  ⟨rfl, _, rfl, .type "ValueError", fun u r => r, b, hk, hd, q⟩
end HotExc
namespace K01
open PySem PySem.Spec PyProof.Rows L2 TL HotExc
theorem StoreAt.put {H : Hp} {a c p : Addr} {o : HO} (S : StoreAt H a c) (n1 : p ≠ a) (n2 : p ≠ c) : StoreAt (L2.upd H p o) a c := by
  obtain ⟨⟨cells, pos, val, turn, seed, h1, h2, h3, h4⟩, n⟩ := S
  exact ⟨⟨cells, pos, val, turn, seed, by rw [upd_ne n1.symm]; exact h1, by rw [upd_ne n2.symm]; exact h2, h3, h4⟩, n⟩
theorem StoreAt.new {H : Hp} {a c p : Addr} {o : HO} (S : StoreAt H a c) (n : H p = none) : StoreAt (L2.upd H p o) a c := by
  obtain ⟨cells, pos, val, turn, seed, h1, h2, _⟩ := S.ex
  exact S.put (ne_of_none h1 n).symm (ne_of_none h2 n).symm
theorem StoreAt.ne1 {H : Hp} {a c p : Addr} (S : StoreAt H a c) (n : H p = none) : p ≠ a := by
  obtain ⟨cells, pos, val, turn, seed, h1, h2, _⟩ := S.ex
  exact (ne_of_none h1 n).symm
theorem StoreAt.ne2 {H : Hp} {a c p : Addr} (S : StoreAt H a c) (n : H p = none) : p ≠ c := by
  obtain ⟨cells, pos, val, turn, seed, h1, h2, _⟩ := S.ex
  exact (ne_of_none h2 n).symm
theorem But.putNew {a p : Addr} {H1 H4 : Hp} {o : HO} (h : But a H1 H4) (np : H1 p = none) : But a H1 (L2.upd H4 p o) := fun b x hb e => by
  rw [upd_ne (ne_of_none e np)]
  exact h b x hb e
theorem But.pushNew {a p : Addr} {H1 H2 : Hp} {o : HO} (np : H1 p = none) (h : But a (L2.upd H1 p o) H2) : But a H1 H2 := fun b x hb e => h b x hb (by rw [upd_ne (ne_of_none e np)]; exact e)
theorem But.free {a c q : Addr} {H H' : Hp} (h : But a H H') (S : StoreAt H' a c) (n : H' q = none) : H q = none := by
  cases e : H q with
  | none => rfl
  | some o =>
    have := h q o (S.ne1 n) e
    rw [n] at this
    cases this
theorem size_ok {n : Nat} (h : n ≤ 1000000) : n < sizeLine := Nat.lt_of_le_of_lt h (by rw [PySem.sizeLine_eq]; decide)
/-! comprehensions with a test, folded -/
def LcT (J : It) (g : TG) (tt : TT) (te : TE) (vs : List Nat) (σ : L2.St) (H1 : Hp) (D : Addr) (Q : Hp → Prop) : Prop := ∃ W : Nat → Nat → Hp → Prop, (∃ m, W 0 m (L2.upd H1 D (.lst []))) ∧ ∀ i m G, W i m G →
  (J.stop i G ∧ Q G) ∨ (J.go i G ∧ ∃ Nx : Hp → Prop, (∀ G', Nx G' → ∃ m', m' < m ∧ W (i + 1) m' G') ∧ ∀ x G', J.yld i G x G' → g x (wipe σ vs) G' fun ω G2 => wipe ω vs = wipe σ vs ∧ tt ω G2 fun b G3 =>
    if b = true then te ω G3 fun y G4 => ∃ got, G4 D = some (.lst got) ∧ got.length < sizeLine ∧ Nx (L2.upd G4 D (.lst (got ++ [y]))) else Nx G3)
theorem lcT_eq {K : PySem.W.Frag} {tl te : TE} {g : TG} {tt : TT} {vs : List Nat} {σ : L2.St} {H : Hp} {Q : VK} : tLc (iList K tl) g tt te vs σ H Q = tl σ H (fun v H1 => ∃ a, v = V.ref a ∧ ∃ xs, SqL K H1 a xs ∧ ∀ D, H1 D = none → LcT (Itl K a) g tt te vs σ H1 D (Q (.ref D))) := by
  show tl σ H _ = tl σ H _
  congr 1
  funext v H1
  exact propext ⟨fun ⟨a, e, ⟨xs, h⟩, q⟩ => ⟨a, e, xs, h, q⟩, fun ⟨a, e, xs, h, q⟩ => ⟨a, e, ⟨xs, h⟩, q⟩⟩
theorem lcRT_eq {ta : TA} {te : TE} {g : TG} {tt : TT} {vs : List Nat} {σ : L2.St} {H : Hp} {Q : VK} : tLc (iRng1 ta) g tt te vs σ H Q = ta σ H (fun vs' H1 => ∃ j : Int, vs' = [V.int j] ∧ -(2 ^ 62) ≤ j ∧ j < 2 ^ 62 ∧ ∀ D, H1 D = none → LcT (Itr 0 j.toNat) g tt te vs σ H1 D (Q (.ref D))) := rfl
section
variable {j : Nat} {tt : TT} {te : TE} {vs : List Nat} {σ : L2.St} {H1 : Hp} {D : Addr} {Qd : Hp → Prop}
theorem r_lcT {K : PySem.W.Frag} {a : Addr} (xs : List V) (Pv : Nat → Hp → Prop) (hw : ∀ x, wipe ((wipe σ vs).set j (some x)) vs = wipe σ vs) (h0 : Pv 0 (L2.upd H1 D (.lst []))) (hl : ∀ i H, i ≤ xs.length → Pv i H → SqL K H a xs)
    (hs : ∀ i x H, xs[i]? = some x → Pv i H → ∀ (N : VK) (M : Hp → Prop), (∀ y H4 got, H4 D = some (.lst got) → got.length < sizeLine → Pv (i + 1) (L2.upd H4 D (.lst (got ++ [y]))) → N y H4) → (∀ H3, Pv (i + 1) H3 → M H3) →
      tt ((wipe σ vs).set j (some x)) H fun b H3 => if b = true then te ((wipe σ vs).set j (some x)) H3 N else M H3) (hd : ∀ H, Pv xs.length H → Qd H) : LcT (Itl K a) (gName j) tt te vs σ H1 D Qd :=
  lc_list (g := gName j) Pv h0 hl (fun i x H hx hp => ⟨hw x, hs i x H hx hp _ _ (fun y H4 got h1 h2 h3 => ⟨got, h1, h2, h3⟩) fun _ h => h⟩) hd
theorem r_lcTL {K : PySem.W.Frag} {a : Addr} (xs : List V) (Pv : Nat → Hp → Prop) (hw : ∀ x, wipe ((wipe σ vs).set j (some x)) vs = wipe σ vs) (h0 : Pv 0 (L2.upd H1 D (.lst []))) (hl : ∀ i H, i ≤ xs.length → Pv i H → SqL K H a xs)
    (hs : ∀ i x H, xs[i]? = some x → Pv i H → ∀ N : VK, (∀ y H4 got, H4 D = some (.lst got) → got.length < sizeLine → Pv (i + 1) (L2.upd H4 D (.lst (got ++ [y]))) → N y H4) → te ((wipe σ vs).set j (some x)) H N) (hd : ∀ H, Pv xs.length H → Qd H) : LcT (Itl K a) (gName j) tYes te vs σ H1 D Qd :=
  r_lcT xs Pv hw h0 hl (fun i x H hx hp N M kN _ => by
    simp only [tYes, if_pos]
    exact hs i x H hx hp N kN) hd
theorem r_lcRT {n : Nat} (Pv : Nat → Hp → Prop) (hw : ∀ x, wipe ((wipe σ vs).set j (some x)) vs = wipe σ vs) (h0 : Pv 0 (L2.upd H1 D (.lst [])))
    (hs : ∀ i H, i < n → Pv i H → ∀ (N : VK) (M : Hp → Prop), (∀ y H4 got, H4 D = some (.lst got) → got.length < sizeLine → Pv (i + 1) (L2.upd H4 D (.lst (got ++ [y]))) → N y H4) → (∀ H3, Pv (i + 1) H3 → M H3) →
      tt ((wipe σ vs).set j (some (.int (0 + i)))) H fun b H3 => if b = true then te ((wipe σ vs).set j (some (.int (0 + i)))) H3 N else M H3) (hd : ∀ H, Pv n H → Qd H) : LcT (Itr 0 n) (gName j) tt te vs σ H1 D Qd :=
  lc_range (g := gName j) Pv h0 (fun i H hi hp => ⟨hw _, hs i H hi hp _ _ (fun y H4 got h1 h2 h3 => ⟨got, h1, h2, h3⟩) fun _ h => h⟩) hd
end
theorem But0.new {H : Hp} {D : Addr} {x : HO} (h : H D = none) : ∀ b o, H b = some o → L2.upd H D x b = some o := fun b o e => by
  rw [upd_ne (fun z => by rw [z, h] at e; cases e)]
  exact e
theorem But0.put {H H' : Hp} {D : Addr} {x : HO} (h : H D = none) (k : ∀ b o, H b = some o → H' b = some o) : ∀ b o, H b = some o → L2.upd H' D x b = some o := fun b o e => by
  rw [upd_ne (fun z => by rw [z, h] at e; cases e)]
  exact k b o e
theorem kp_ne {H : Hp} {p D : Addr} {o : HO} (h : H p = some o) (n : H D = none) : p ≠ D := fun z => by
  rw [z, n] at h
  cases h
theorem But0.put' {H : Hp} {p D : Addr} {o x : HO} (h : H p = some o) (n : p ≠ D) : L2.upd H D x p = some o := (upd_ne n).trans h
theorem at_lst {H : Hp} {a : Addr} {xs : List V} {l : List Dat} (h : H a = some (.lst xs)) (hl : xs.length ≤ 1000000) (r : AtL H (fun _ => True) l xs) : At H (fun _ => True) (.lst l) (.ref a) := ⟨a, xs, rfl, trivial, h, hl, r⟩
theorem at_tup {H : Hp} {a : Addr} {xs : List V} {l : List Dat} (h : H a = some (.tup xs)) (hl : xs.length ≤ 1000000) (r : AtL H (fun _ => True) l xs) : At H (fun _ => True) (.tup l) (.ref a) := ⟨a, xs, rfl, trivial, h, hl, r⟩
theorem atl_cons {H : Hp} {A : Addr → Prop} {d : Dat} {l : List Dat} {v : V} {r : List V} (h : At H A d v) (h2 : AtL H A l r) : AtL H A (d :: l) (v :: r) := ⟨v, r, rfl, h, h2⟩
def Keeps (H H' : Hp) : Prop := ∀ b o, H b = some o → H' b = some o
theorem Keeps.refl (H : Hp) : Keeps H H := fun _ _ h => h
theorem Keeps.trans {H H1 H2 : Hp} (h : Keeps H H1) (k : Keeps H1 H2) : Keeps H H2 := fun b o e => k b o (h b o e)
theorem Keeps.new {H : Hp} {p : Addr} {x : HO} (n : H p = none) : Keeps H (L2.upd H p x) := But0.new n
theorem Keeps.put {H H' : Hp} {p : Addr} {x : HO} (k : Keeps H H') (n : H p = none) : Keeps H (L2.upd H' p x) := But0.put n k
theorem Keeps.free {H H' : Hp} {p : Addr} (k : Keeps H H') (n : H' p = none) : H p = none := by
  cases e : H p with
  | none => rfl
  | some o => rw [k p o e] at n; cases n
theorem Keeps.store {H H' : Hp} {a c : Addr} (S : StoreAt H a c) (k : Keeps H H') : StoreAt H' a c := by
  obtain ⟨⟨cells, pos, val, turn, seed, h1, h2, h3, h4⟩, n⟩ := S
  exact ⟨⟨cells, pos, val, turn, seed, k _ _ h1, k _ _ h2, h3, h4⟩, n⟩
theorem Keeps.but {a : Addr} {H H' : Hp} (k : Keeps H H') : But a H H' := fun b o _ e => k b o e
theorem inV_strs (z : Str) : ∀ ws : List Str, inV (.str z) (ws.map V.str) = decide (z ∈ ws)
  | [] => rfl
  | y :: ws => by
    have ih := inV_strs z ws
    unfold inV at ih ⊢
    rw [List.map_cons, List.any_cons, ih]
    show ((y == z) || decide (z ∈ ws)) = decide (z ∈ y :: ws)
    by_cases h : y = z
    · subst h
      simp
    · have e : (y == z) = false := by simpa using h
      rw [e, Bool.false_or]
      exact decide_eq_decide.mpr ⟨fun m => List.mem_cons_of_mem _ m, fun m => (List.mem_cons.mp m).elim (fun z' => absurd z'.symm h) id⟩
theorem flat_strs : ∀ ws : List Str, (ws.map V.str).all flatV = true
  | [] => rfl
  | _ :: ws => flat_strs ws
/-- a text in a row of texts -/
def rInW (K : PySem.W.Frag) : R2 := fun x y H Q => ∃ z, x = .str z ∧ ∃ p, y = .ref p ∧ ∃ ws : List Str, (SqL K H p (ws.map V.str) ∨ SqT K H p (ws.map V.str)) ∧ Q (.bl (decide (z ∈ ws))) H
def rNinW (K : PySem.W.Frag) : R2 := fun x y H Q => ∃ z, x = .str z ∧ ∃ p, y = .ref p ∧ ∃ ws : List Str, (SqL K H p (ws.map V.str) ∨ SqT K H p (ws.map V.str)) ∧ Q (.bl (!decide (z ∈ ws))) H
theorem op_inW {X : Cx} {K : PySem.W.Frag} (h : X.K = K := by rfl) : OpR X (compareOp .In) (rInW K) := opR_mono (h ▸ op_in_seq) fun _ _ _ _ ⟨z, e, p, e2, ws, hs, q⟩ => ⟨p, _, e2, hs, by rw [e]; rfl, flat_strs ws, by rw [e, inV_strs]; exact q⟩
theorem op_ninW {X : Cx} {K : PySem.W.Frag} (h : X.K = K := by rfl) : OpR X (compareOp .NotIn) (rNinW K) := opR_mono (h ▸ op_notIn_seq) fun _ _ _ _ ⟨z, e, p, e2, ws, hs, q⟩ => ⟨p, _, e2, hs, by rw [e]; rfl, flat_strs ws, by rw [e, inV_strs]; exact q⟩
/-- a class's own def -/
def clsS (i j : Nat) : Stmt := match topS i with
  | .ClassDef _ _ _ b _ _ _ _ _ _ _ => b.getD j (.Pass ⟨0, 0, 0, 0⟩)
  | _ => .Pass ⟨0, 0, 0, 0⟩
def spIni1 (C : Addr) (fld : Str) : Sp := fun vs H Q _ => ∃ a y, vs = [.ref a, y] ∧ H a = some (exo a C none) ∧ ∀ dx, H dx = none → dx ≠ a → Q .non (L2.upd (L2.upd H dx (exd dx [(fld, y)])) a (exo a C (some dx)))
def spIni2 (C : Addr) (f1 f2 : Str) : Sp := fun vs H Q _ => ∃ a y z, vs = [.ref a, y, z] ∧ H a = some (exo a C none) ∧ ∀ dx, H dx = none → dx ≠ a → Q .non (L2.upd (L2.upd (L2.upd H dx (exd dx [(f1, y)])) a (exo a C (some dx))) dx (exd dx [(f2, z), (f1, y)]))
section
variable {P : Program} {w : World} {K : PySem.W.Frag} {mg : Str → Option Value} {base : Heap}
/-- a def that may let an exception out, its context None -/
theorem okN {x qual : Str} {st : Stmt} {f : Addr} {fd : FuncData} {N ps : List Str} {k : Nat} {sp : Sp} (F : Fun K x qual st f fd) (S : FnScope N ps (defScope st)) (len : ∀ vs H Q E, sp vs H Q E → vs.length = ps.length)
    (body : ∀ (cdv : Value) (A : Around) (outer : List Env) (s : Shared) (H : Hp) (vs : List V) (Q : VK) (E : XK), Room k (A.deeper (envOfC qual (defScope st) s.heap.objs.size f cdv)) → sp vs H Q E →
      ∃ t, PSs (cxOf (L2N.CX P w) P w K mg base N qual (defScope st) f cdv A outer s H E) (defBody st) t ∧ t { nx := fun _ H' => Q .non H', rt := Q } (L2.start N vs) H) : FnOk P w K mg base (L2N.CX P w) (k + 1) f fd ps sp := by
  obtain ⟨oc, od, kV, doc, pm, an, cdv, ct, osl, rfl, lk, hcd⟩ := F.ex
  refine fn_of lk hcd S len ?_
  intro A outer s H vs Q E hr h
  exact body cdv A outer s H vs Q E hr h
/-- what is known of an own exception class -/
structure Exn (K : PySem.W.Frag) (mg : Str → Option Value) (x : Str) (C fI : Addr) : Prop where
  oex : OexC K C
  g : mg x = some (.ref C)
  ini : PySem.W.findIn K (.ref C) "__init__" = some (some (.ref fI))
  fn : PySem.W.typeIn K (.ref fI) = some (.type "function")
theorem mk_same {H : Hp} {a d : Addr} {u v w x : HO} (na : H a = none) (ne : d ≠ a) : L2.upd (del (L2.upd (L2.upd (L2.upd H a u) d v) a w) a) d x = L2.upd H d x := by
  funext b
  by_cases h1 : b = d
  · rw [h1, upd_same, upd_same]
  · rw [upd_ne h1, upd_ne h1]
    by_cases h2 : b = a
    · rw [h2, del_same, na]
    · rw [del_ne h2, upd_ne h2, upd_ne h1, upd_ne h2]
theorem mk1 {C : Addr} {fld : Str} {y : V} {H : Hp} {Q : XK} (q : ∀ d, H d = none → Q (.ref C) (some d) (L2.upd H d (.xd [(fld, y)]))) : [y].length ≤ 1000 ∧ ∀ a, H a = none → spIni1 C fld (.ref a :: ([y] ++ [])) (L2.upd H a (exo a C none))
    (fun v H2 => v = .non ∧ ∃ (d : Addr) (fs : List (Str × V)), H2 a = some (exo a C (some d)) ∧ H2 d = some (exd d fs) ∧ H d = none ∧ Q (.ref C) (some d) (L2.upd (del H2 a) d (.xd fs))) (fun _ _ _ => False) := by
  refine ⟨by rw [List.length_singleton]; decide, fun a na => ⟨a, y, rfl, upd_same, fun dx n ne => ?_⟩⟩
  have n' : H dx = none := (upd_ne ne).symm.trans n
  refine ⟨rfl, dx, _, upd_same, (upd_ne ne).trans upd_same, n', ?_⟩
  rw [mk_same na ne]
  exact q dx n'
end
theorem mk2 {C : Addr} {f1 f2 : Str} {y z : V} {H : Hp} {Q : XK} (q : ∀ d, H d = none → Q (.ref C) (some d) (L2.upd H d (.xd [(f2, z), (f1, y)]))) : [y, z].length ≤ 1000 ∧ ∀ a, H a = none → spIni2 C f1 f2 (.ref a :: ([y, z] ++ [])) (L2.upd H a (exo a C none))
    (fun v H2 => v = .non ∧ ∃ (d : Addr) (fs : List (Str × V)), H2 a = some (exo a C (some d)) ∧ H2 d = some (exd d fs) ∧ H d = none ∧ Q (.ref C) (some d) (L2.upd (del H2 a) d (.xd fs))) (fun _ _ _ => False) := by
  refine ⟨Nat.le_of_ble_eq_true rfl, fun a na => ⟨a, y, z, rfl, upd_same, fun dx n ne => ?_⟩⟩
  have n' : H dx = none := (upd_ne ne).symm.trans n
  refine ⟨rfl, dx, _, (upd_ne (Ne.symm ne)).trans upd_same, upd_same, n', ?_⟩
  have e : ∀ (u v w v2 x : HO), L2.upd (del (L2.upd (L2.upd (L2.upd (L2.upd H a u) dx v) a w) dx v2) a) dx x = L2.upd H dx x := fun u v w v2 x => by
    funext b
    by_cases h1 : b = dx
    · rw [h1, upd_same, upd_same]
    · rw [upd_ne h1, upd_ne h1]
      by_cases h2 : b = a
      · rw [h2, del_same, na]
      · rw [del_ne h2, upd_ne h1, upd_ne h2, upd_ne h1, upd_ne h2]
  rw [e]
  exact q dx n'
/-- a def of the top whose parameters are not all positional -/
structure Dk (K : PySem.W.Frag) (mg : Str → Option Value) (x : Str) (st : Stmt) (f : Addr) (fd : FuncData) : Prop where
  F : Fun K x x st f fd
  g : mg x = some (.ref f)
def spPickL : Sp := fun vs H Q _ => ∃ (a c p : Addr) (xs : List V), vs = [.ref a, .ref p] ∧ StoreAt H a c ∧ H p = some (.lst xs) ∧ p ≠ a ∧ xs ≠ [] ∧ xs.length ≤ 1000 ∧ Drawn H a c (fun v => v ∈ xs) Q
end K01
namespace K01
open PySem PySem.Spec PyProof.Rows L2 TL HotExc
local macro_rules | `(tactic| walk_at "rd") => `(tactic| simp only [start1, wipe, isR, isBool, isInt, isStr, isLst, isTup, tAsg, gName, gSub, tVar, tC, tOp, tUn, tTest, tIfS, tRet, tRetN, tDrop, tB, tAnd, tOr, tNot, tAndV, tOrV, tNotV, tIf, tCB, tCons, tNil, tNext, tCall, tBM, tTup, tLst, rI0, rI, rEq, rNe, scal, forR_eq, forR2_eq, forS_eq, forL_eq, lcT_eq, lcRT_eq, lcS_eq, rLenX, rLenS, rListOf, tRevL, rMulS, rRepL, rCatL, tPart, tNoPart, CwR.tReplC, rAllK, rInSg, rNinSg, sgn_inj, rAddS, rInSt, tChain, tM1, tM0, rSplitN, rJoinN, exists_eq, rIntI, rIntB, rIntS, rStrI, rAbs, rOrd, rMin, rMax, rIxL, rIxX, rSetL, rAppend, rIxS, rSlS, rSlL, tSl, List.map_cons, List.map_nil, List.replicate_succ, List.replicate_zero, List.length_cons, List.length_nil, Nat.reduceSub, Nat.reduceAdd, Nat.zero_add, Nat.sub_self, List.getElem?_cons_zero, List.getElem?_cons_succ, List.set_cons_zero, List.set_cons_succ, List.append_nil, List.nil_append, List.cons_append, Option.some.injEq, not_true_eq_false, reduceCtorEq, exists_eq_left', exists_eq_left, exists_eq', exists_and_left, exists_and_right, V.int.injEq, V.str.injEq, V.bl.injEq, V.ref.injEq, List.cons.injEq, and_true, true_and, and_assoc, decide_eq_true_eq, Bool.not_eq_true', decide_eq_false_iff_not, ite_true, ite_false, if_true, if_false, Bool.not_true, Bool.not_false, Bool.false_eq_true, eq_self_iff_true, reduceIte, ne_eq, Int.reduceEq, not_false_eq_true])
local macro_rules | `(tactic| walk_at "rt") => `(tactic| try walk_at "rd")
local macro_rules | `(tactic| walk_at "st") => `(tactic| (walk_at "rt"; refine r_seq ?_; walk_at "rt"))
local macro_rules | `(tactic| walk_at "hp") => `(tactic| first | assumption | exact upd_same | (rw [upd_ne (by assumption)]; walk_at "hp"))
local macro_rules | `(tactic| walk_at "ex1") => `(tactic| ((with_reducible refine Exists.intro ?w (And.intro ?hx ?_)); (case hx => first | exact sq_of (by walk_at "hp") | exact .inl (sq_of (by walk_at "hp")) | exact rfl | (show _ = some (HO.lst _); walk_at "hp"))))
local macro_rules | `(tactic| walk_at "ex") => `(tactic| repeat (first | walk_at "ex1" | walk_at "rd"))
theorem store_tup {H : Hp} {a c l : Addr} {xs : List V} (S : StoreAt H a c) (h : H l = some (.tup xs)) : l ≠ a := fun e => by
  obtain ⟨_, _, _, _, _, h2, _⟩ := S.ex
  rw [e, h2] at h
  cases h
def spLaw (K : PySem.W.Frag) : Sp := fun vs H Q _ => ∃ (a : Addr) (ns : List Int), vs = [.ref a] ∧ SqL K H a (ns.map V.int) ∧ ns.length ≤ 63 ∧ ∀ H', Q (.bl true) H'
section
variable {P : Program} {w : World} {K : PySem.W.Frag} {mg : Str → Option Value} {base : Heap}
theorem ok_pickL {f f_take : Addr} {fd fd_take : FuncData} (B : Bi mg) (D : Dn K mg "_law_pick" s_pick ["store", "row"] f fd) (D_take : Dn K mg "_law_take" s_take ["store", "many"] f_take fd_take)
    (G_take : FnOk P w K mg base CX0 2 f_take fd_take ["store", "many"] spTake) : FnOk P w K mg base CX0 3 f fd ["store", "row"] spPickL := by
  refine D.F.ok sc_pick (fun vs H Q E h => ?_) (fun cdv A outer s H vs Q E hr h => ?_)
  · obtain ⟨a, c, p, xs, rfl, _⟩ := h
    rfl
  · obtain ⟨a, c, p, xs, rfl, S, hp, hpa, hne, hl, q⟩ := h
    refine ⟨_, (pss_cons (ps_if (pt_cmpR op_eq (pe_callB (call_lenXK (K := K)) (by rfl) B.len PySem.boot_len (pa_cons (pv 1) pa_nil)) pe_int (nomark _)) (pss_one (ps_ret pe_non)) pss_nil)
      (pss_one (ps_ret (pe_ix (ix_listK (K := K)) (pv 1) (pe_call G_take (hr.mono (by omega)) (by rfl) D_take.g D_take.F.kp D_take.b .nil pass0 (pa_cons (pv 0) (pa_cons (pe_callB (call_lenXK (K := K)) (by rfl) B.len PySem.boot_len (pa_cons (pv 1) pa_nil)) pa_nil))) (fun _ _ => rfl)))))
, ?_⟩
    have hpos : 0 < xs.length := List.length_pos_iff.mpr hne
    walk_at "st"
    refine ⟨_, .inl (sq_of hp), ite2 (fun e => absurd e (by omega)) (fun _ => ?_)⟩
    walk_at "rt"
    refine ⟨_, .inl (sq_of hp), ?_⟩
    refine ⟨a, c, _, rfl, S, by omega, fun v H' S' b' ⟨r, e, r0, r1⟩ => ?_⟩
    subst e
    obtain ⟨k, hk, hk2⟩ := atI_get (xs := xs) (i := r) r0 (by omega)
    walk_at "rt"
    exact ⟨_, sq_of (b' p _ hpa hp), _, hk, q _ _ S' b' (List.mem_of_getElem? hk2)⟩
end
end K01
/-! f( *x, e ): a starred argument ahead of others -/
namespace HotExc
open PySem PySem.Spec PyProof.Rows L2
theorem evalArgs_more {M : Model} {A : Around} {E : Value → Shared → Prop} {s : Shared} {f : Value} {b : Bool} {x : Sem Value} {y : Bool × Sem Value} {rest : List (Bool × Sem Value)} {Q : Args → Shared → Prop}
    (h : wpAny M A (spliced ((b, x) :: y :: rest)) (fun vs s' => Q ⟨vs, []⟩ s') E s) : wpAny M A (evalArgs f true ((b, x) :: y :: rest) []) Q E s := by
  unfold evalArgs
  cases b with
  | false =>
    show wpAny M A (spliced ((false, x) :: y :: rest) >>= _) Q E s
    refine wpAny_bind (wpAny_mono h (fun vs s' h' => ?_) fun _ _ x => x)
    refine wpAny_holding ?_
    exact wpAny_bind (wpAny_pure (wpAny_bind (wpAny_pure (wpAny_pure h'))))
  | true =>
    show wpAny M A (spliced ((true, x) :: y :: rest) >>= _) Q E s
    refine wpAny_bind (wpAny_mono h (fun vs s' h' => ?_) fun _ _ x => x)
    refine wpAny_holding ?_
    exact wpAny_bind (wpAny_pure (wpAny_bind (wpAny_pure (wpAny_pure h'))))
def tCallT (sp : Sp) (E : XK) (t : TA) : TE := fun σ H Q => t σ H fun vs H1 => sp vs H1 Q E
theorem pe_callT {X : Cx} {CX : CXT} {k : Nat} {f : Addr} {fd : FuncData} {ps : List Str} {sp : Sp} {E : XK} {x : Str} {p sp_ pos : Pos} {e e2 : Expr} {es : List Expr} {t : TA}
    (F : FnOk X.prog X.w X.K X.mg X.base CX k f fd ps sp) (hr : Room k X.A) (hg : Gl X x) (hm : X.mg x = some (.ref f)) (hk : PySem.W.keepIn X.K (.ref f) = true) (hb : Binds X.K fd ps []) (hx : Passes CX X E) (ha : PA X (.Starred e sp_ :: e2 :: es) t)
    (hdb : (x == ("__debug__" : Str)) = false := by decide) (he : starEach (.Starred e sp_ :: e2 :: es) X.env = (true, eval e X.env) :: starEach (e2 :: es) X.env := by rfl)
    (he2 : starEach (e2 :: es) X.env = (false, eval e2 X.env) :: starEach es X.env := by rfl) : PE X (.Call (.Name x p) (.Starred e sp_ :: e2 :: es) [] pos) (tCallT sp E t) := by
  refine ⟨fun pins s σ H Q I h => ?_⟩
  refine wpAny_Call_Name_kw (ld_glob I hg hm ?_ hdb)
  have z := ha.run pos pins s σ H _ I h
  rw [he, he2] at z ⊢
  refine PySem.W.ks_call rfl (PySem.W.keeps_K hk) (evalArgs_more (thn z fun us s1 ⟨vs, H1, I1, r, q⟩ => ⟨I1.kIn, ?_⟩))
  exact run_fn F hr hb .nil hx I1 r (by rw [List.append_nil]; exact q)
def TTm (c : TT) : Prop := ∀ (σ : L2.St) (H : Hp) (Q Q' : Bool → Hp → Prop), (∀ b H, Q b H → Q' b H) → c σ H Q → c σ H Q'
theorem r_while {c : TT} {tb : TS} {D : Ends} {σ : L2.St} {H : Hp} (hm : TTm c) (W : Nat → L2.St → Hp → Prop) (h0 : ∃ m, W m σ H)
    (hs : ∀ m σ H, W m σ H → ∀ N : L2.St → Hp → Prop, (∀ m' σ' H', m' < m → W m' σ' H' → N σ' H') → c σ H fun b H1 => if b = true then tb { D with nx := N, ct := N, bk := D.nx } σ H1 else D.nx σ H1) : tWhile c tb D σ H := by
  refine ⟨W, h0, fun m σ H w => ?_⟩
  refine hm σ H _ _ (fun b H1 q => ?_) (hs m σ H w (fun σ' H' => ∃ m', m' < m ∧ W m' σ' H') fun m' σ' H' l w => ⟨m', l, w⟩)
  cases b with
  | true => exact ⟨_, fun σ' H' h => h, q⟩
  | false => exact q
theorem mono_notN {i : Nat} : TTm (tTest (tOp (fun x y H Q => y = .non ∧ Q (.bl (!decide (x = .non))) H) (tVar i) (tC .non))) := by
  rintro σ H Q Q' k ⟨x, hx, hy, b, e, q⟩
  exact ⟨x, hx, hy, b, e, k _ _ q⟩
end HotExc
namespace Tw
/-! ### trees, their text, the machine that reads it -/
inductive F where
  | nil
  | cons (d : List Nat) (s r : F)
def F.cnt : F → Nat
  | .nil => 0
  | .cons _ s r => 1 + s.cnt + r.cnt
def F.dep : F → Nat
  | .nil => 0
  | .cons _ s r => max (1 + s.dep) r.dep
def F.len : F → Nat
  | .nil => 0
  | .cons _ _ r => 1 + r.len
def F.tx : F → List Nat
  | .nil => []
  | .cons d s r => d ++ 40 :: (s.tx ++ 41 :: r.tx)
def F.snoc : F → List Nat → F → F
  | .nil, d, s => .cons d s .nil
  | .cons e t r, d, s => .cons e t (r.snoc d s)
def F.ps : F → List (List Nat × F)
  | .nil => []
  | .cons d s r => (d, s) :: r.ps
def F.of : List (List Nat × F) → F
  | [] => .nil
  | (d, s) :: r => .cons d s (F.of r)
def low (c : Nat) : Prop := 97 ≤ c ∧ c ≤ 122
def lod (c : Nat) : Prop := (97 ≤ c ∧ c ≤ 122) ∨ (48 ≤ c ∧ c ≤ 57)
instance (c : Nat) : Decidable (low c) := by unfold low; infer_instance
instance (c : Nat) : Decidable (lod c) := by unfold lod; infer_instance
/-- a place name -/
def nm : List Nat → Prop
  | [] => False
  | c :: r => low c ∧ r.length ≤ 5 ∧ ∀ x ∈ r, lod x
instance : (l : List Nat) → Decidable (nm l)
  | [] => isFalse id
  | c :: r => by unfold nm; infer_instance
def okd (d : List Nat) : Prop := d = [45] ∨ nm d
def F.good : F → Prop
  | .nil => True
  | .cons d s r => okd d ∧ s.good ∧ r.good
structure S where
  w : List Nat
  b : Nat
  n : Nat
def step (s : S) (c : Nat) : Option S :=
  if c = 40 ∧ s.w ≠ [] then some ⟨[], s.b + 1, s.n + 1⟩
  else if c = 41 ∧ s.w = [] ∧ 0 < s.b then some ⟨[], s.b - 1, s.n⟩
  else if s.w = [] ∧ (c = 45 ∨ nm [c]) ∧ s.b < 13 ∧ s.n < 2000 then some ⟨[c], s.b, s.n⟩
  else if s.w ≠ [] ∧ nm (s.w ++ [c]) then some ⟨s.w ++ [c], s.b, s.n⟩
  else none
def run (s : S) (i : Nat) : List Nat → Option Nat
  | [] => if s.w ≠ [] ∨ 0 < s.b then some i else none
  | c :: r => match step s c with
    | some t => run t (i + 1) r
    | none => some i
def fault (l : List Nat) : Option Nat := run ⟨[], 0, 0⟩ 0 l
theorem low_lod {c : Nat} (h : low c) : lod c := .inl h
theorem low_ne {c : Nat} (h : low c) : c ≠ 40 ∧ c ≠ 41 ∧ c ≠ 45 := by obtain ⟨h1, h2⟩ := h; omega
theorem lod_ne {c : Nat} (h : lod c) : c ≠ 40 ∧ c ≠ 41 ∧ c ≠ 45 := by rcases h with ⟨h1, h2⟩ | ⟨h1, h2⟩ <;> omega
theorem nm_ne {d : List Nat} (h : nm d) : d ≠ [] := by rintro rfl; exact h
theorem nm_mem {d : List Nat} (h : nm d) {c : Nat} (m : c ∈ d) : lod c := by
  cases d with
  | nil => cases h
  | cons x r =>
    rcases List.mem_cons.mp m with rfl | m
    · exact .inl h.1
    · exact h.2.2 c m
theorem okd_ne {d : List Nat} (h : okd d) : d ≠ [] := by
  rcases h with rfl | h
  · simp
  · exact nm_ne h
theorem okd_len {d : List Nat} (h : okd d) : d.length ≤ 6 := by
  rcases h with rfl | h
  · simp
  · cases d with
    | nil => simp
    | cons x r => have := h.2.1; simp; omega
theorem okd_mem {d : List Nat} (h : okd d) {c : Nat} (m : c ∈ d) : c ≠ 40 ∧ c ≠ 41 := by
  rcases h with rfl | h
  · rw [List.mem_singleton.mp m]; omega
  · exact ⟨(lod_ne (nm_mem h m)).1, (lod_ne (nm_mem h m)).2.1⟩
theorem nm_one {c : Nat} : nm [c] ↔ low c := by
  show (low c ∧ ([] : List Nat).length ≤ 5 ∧ ∀ x ∈ ([] : List Nat), lod x) ↔ low c
  simp
theorem nm_snoc {w : List Nat} {c : Nat} (h : nm w) : nm (w ++ [c]) ↔ w.length < 6 ∧ lod c := by
  cases w with
  | nil => cases h
  | cons x r =>
    show (low x ∧ (r ++ [c]).length ≤ 5 ∧ ∀ y ∈ r ++ [c], lod y) ↔ _
    constructor
    · rintro ⟨_, h1, h2⟩
      rw [List.length_append] at h1
      simp only [List.length_cons, List.length_nil] at h1 ⊢
      exact ⟨by omega, h2 c (by simp)⟩
    · rintro ⟨h1, h2⟩
      simp only [List.length_cons] at h1
      refine ⟨h.1, by rw [List.length_append]; simp; omega, fun y hy => ?_⟩
      rcases List.mem_append.mp hy with hy | hy
      · exact h.2.2 y hy
      · rw [List.mem_singleton.mp hy]; exact h2
theorem nm_dash {c : Nat} : ¬ nm ([45] ++ [c]) := by
  rintro ⟨h, _⟩
  have := h.1
  omega
/-! steps -/
theorem step_open {w : List Nat} {b n : Nat} (h : w ≠ []) : step ⟨w, b, n⟩ 40 = some ⟨[], b + 1, n + 1⟩ := by
  unfold step
  rw [if_pos ⟨rfl, h⟩]
theorem step_close {b n : Nat} (h : 0 < b) : step ⟨[], b, n⟩ 41 = some ⟨[], b - 1, n⟩ := by
  unfold step
  rw [if_neg (by simp), if_pos ⟨rfl, rfl, h⟩]
theorem step_first {c b n : Nat} (h : c = 45 ∨ low c) (hb : b < 13) (hn : n < 2000) : step ⟨[], b, n⟩ c = some ⟨[c], b, n⟩ := by
  have h1 : c ≠ 41 := by
    rcases h with rfl | h
    · omega
    · exact (low_ne h).2.1
  unfold step
  rw [if_neg (by simp), if_neg (by simp [h1]), if_pos ⟨rfl, by rw [nm_one]; exact h, hb, hn⟩]
theorem step_odd {c b n : Nat} (h : c ≠ 45) (h2 : ¬ low c) (h3 : c ≠ 41 ∨ b = 0) : step ⟨[], b, n⟩ c = none := by
  unfold step
  rw [if_neg (by simp), if_neg (by rintro ⟨h4, _, h5⟩; simp only at h5; rcases h3 with h3 | h3 <;> omega), if_neg (by rw [nm_one]; rintro ⟨_, h4 | h4, _⟩ <;> contradiction), if_neg (by simp)]
theorem step_full {c b n : Nat} (h : 13 ≤ b ∨ 2000 ≤ n) (h3 : c ≠ 41 ∨ b = 0) : step ⟨[], b, n⟩ c = none := by
  unfold step
  rw [if_neg (by simp), if_neg (by rintro ⟨h4, _, h5⟩; simp only at h5; rcases h3 with h3 | h3 <;> omega), if_neg (by rintro ⟨_, _, h4, h5⟩; rcases h with h | h <;> simp only at h4 h5 <;> omega), if_neg (by simp)]
theorem step_more {w : List Nat} {c b n : Nat} (hw : w ≠ []) (h : nm (w ++ [c])) : step ⟨w, b, n⟩ c = some ⟨w ++ [c], b, n⟩ := by
  have h1 := (lod_ne (nm_mem h (List.mem_append_right _ (List.mem_singleton.mpr rfl))))
  unfold step
  rw [if_neg (by rintro ⟨h2, _⟩; exact h1.1 h2), if_neg (by rintro ⟨_, h2, _⟩; exact hw h2), if_neg (by rintro ⟨h2, _⟩; exact hw h2), if_pos ⟨hw, h⟩]
theorem step_stop {w : List Nat} {c b n : Nat} (hw : w ≠ []) (h : ¬ nm (w ++ [c])) (h1 : c ≠ 40) : step ⟨w, b, n⟩ c = none := by
  unfold step
  rw [if_neg (by rintro ⟨h2, _⟩; exact h1 h2), if_neg (by rintro ⟨_, h2, _⟩; exact hw h2), if_neg (by rintro ⟨h2, _⟩; exact hw h2), if_neg (by rintro ⟨_, h2⟩; exact h h2)]
theorem run_some {s t : S} {c i : Nat} {r : List Nat} (h : step s c = some t) : run s i (c :: r) = run t (i + 1) r := by
  show (match step s c with | some t => run t (i + 1) r | none => some i) = _
  rw [h]
theorem run_none {s : S} {c i : Nat} {r : List Nat} (h : step s c = none) : run s i (c :: r) = some i := by
  show (match step s c with | some t => run t (i + 1) r | none => some i) = _
  rw [h]
/-- the rest of a name -/
theorem run_name : ∀ (m w : List Nat) (b n i : Nat) (r : List Nat), nm w → nm (w ++ m) → run ⟨w, b, n⟩ i (m ++ r) = run ⟨w ++ m, b, n⟩ (i + m.length) r
  | [], w, b, n, i, r, _, _ => by rw [List.append_nil]; rfl
  | c :: m, w, b, n, i, r, hw, h => by
    have e : w ++ c :: m = (w ++ [c]) ++ m := by rw [List.append_assoc]; rfl
    have h1 : nm (w ++ [c]) := by
      rw [nm_snoc hw]
      refine ⟨?_, nm_mem h (by simp)⟩
      cases w with
      | nil => cases hw
      | cons x t =>
        have := h.2.1
        simp at this ⊢
        omega
    rw [List.cons_append, run_some (step_more (nm_ne hw) h1), run_name m (w ++ [c]) b n (i + 1) r h1 (e ▸ h), e]
    congr 1
    simp
    omega
/-- a deed, up to its bracket -/
theorem run_deed {d : List Nat} {b n i : Nat} {r : List Nat} (h : okd d) (hb : b < 13) (hn : n < 2000) : run ⟨[], b, n⟩ i (d ++ r) = run ⟨d, b, n⟩ (i + d.length) r := by
  rcases h with rfl | h
  · exact run_some (step_first (.inl rfl) hb hn)
  · cases d with
    | nil => cases h
    | cons c m =>
      rw [List.cons_append, run_some (step_first (.inr h.1) hb hn), run_name m [c] b n (i + 1) r (nm_one.mpr h.1) h]
      congr 1
      simp
      omega
theorem run_tx : ∀ (f : F) (b n i : Nat) (r : List Nat), f.good → b + f.dep ≤ 13 → n + f.cnt ≤ 2000 → run ⟨[], b, n⟩ i (f.tx ++ r) = run ⟨[], b, n + f.cnt⟩ (i + f.tx.length) r
  | .nil, b, n, i, r, _, _, _ => rfl
  | .cons d s t, b, n, i, r, hg, hb, hn => by
    obtain ⟨h1, h2, h3⟩ := hg
    simp only [F.dep, F.cnt] at hb hn
    have e : (F.cons d s t).tx ++ r = d ++ 40 :: (s.tx ++ 41 :: (t.tx ++ r)) := by simp [F.tx]
    rw [e, run_deed h1 (by omega) (by omega), run_some (step_open (okd_ne h1)), run_tx s _ _ _ _ h2 (by omega) (by omega), run_some (step_close (by omega)), run_tx t _ _ _ _ h3 (by omega) (by omega)]
    simp only [F.cnt, F.tx, List.length_append, List.length_cons]
    congr 1
    · congr 1
      omega
    · omega
theorem fault_tx {f : F} (h : f.good) (hb : f.dep ≤ 13) (hn : f.cnt ≤ 2000) : fault f.tx = none := by
  have := run_tx f 0 0 0 [] h (by omega) (by omega)
  rw [List.append_nil] at this
  rw [fault, this]
  rfl
/-! a text tells its tree -/
theorem cut_at {c : Nat} : ∀ (d e x y : List Nat), c ∉ d → c ∉ e → d ++ c :: x = e ++ c :: y → d = e ∧ x = y
  | [], [], x, y, _, _, h => ⟨rfl, by simpa using h⟩
  | [], a :: e, x, y, _, h2, h => by
    simp only [List.nil_append, List.cons_append, List.cons.injEq] at h
    exact absurd (by rw [h.1]; exact List.mem_cons_self) h2
  | a :: d, [], x, y, h1, _, h => by
    simp only [List.nil_append, List.cons_append, List.cons.injEq] at h
    exact absurd (by rw [← h.1]; exact List.mem_cons_self) h1
  | a :: d, b :: e, x, y, h1, h2, h => by
    simp only [List.cons_append, List.cons.injEq] at h
    obtain ⟨h3, h4⟩ := cut_at d e x y (fun m => h1 (List.mem_cons_of_mem _ m)) (fun m => h2 (List.mem_cons_of_mem _ m)) h.2
    exact ⟨by rw [h.1, h3], h4⟩
/-- what cannot stand at a bracket that closes, or at the end -/
theorem tx_pre : ∀ (f g : F) (x y : List Nat), f.good → g.good → (x = [] ∨ ∃ z, x = 41 :: z) → (y = [] ∨ ∃ z, y = 41 :: z) → f.tx ++ x = g.tx ++ y → f = g ∧ x = y
  | .nil, .nil, x, y, _, _, _, _, h => ⟨rfl, h⟩
  | .nil, .cons d s r, x, y, _, hg, hx, _, h => by
    exfalso
    have e : x = d ++ 40 :: (s.tx ++ 41 :: (r.tx ++ y)) := by simpa [F.tx] using h
    have hd := hg.1
    cases d with
    | nil => exact okd_ne hd rfl
    | cons c d =>
      rcases hx with rfl | ⟨z, rfl⟩
      · cases e
      · have e2 : (41 : Nat) = c := (List.cons.inj e).1
        exact (okd_mem hd List.mem_cons_self).2 e2.symm
  | .cons d s r, .nil, x, y, hg, _, _, hy, h => by
    exfalso
    have e : y = d ++ 40 :: (s.tx ++ 41 :: (r.tx ++ x)) := by simpa [F.tx] using h.symm
    have hd := hg.1
    cases d with
    | nil => exact okd_ne hd rfl
    | cons c d =>
      rcases hy with rfl | ⟨z, rfl⟩
      · cases e
      · have e2 : (41 : Nat) = c := (List.cons.inj e).1
        exact (okd_mem hd List.mem_cons_self).2 e2.symm
  | .cons d s r, .cons e t u, x, y, hf, hg, hx, hy, h => by
    have h' : d ++ 40 :: (s.tx ++ 41 :: (r.tx ++ x)) = e ++ 40 :: (t.tx ++ 41 :: (u.tx ++ y)) := by simpa [F.tx] using h
    obtain ⟨h1, h2⟩ := cut_at d e _ _ (fun m => (okd_mem hf.1 m).1 rfl) (fun m => (okd_mem hg.1 m).1 rfl) h'
    obtain ⟨h3, h4⟩ := tx_pre s t _ _ hf.2.1 hg.2.1 (.inr ⟨_, rfl⟩) (.inr ⟨_, rfl⟩) h2
    obtain ⟨h5, h6⟩ := tx_pre r u x y hf.2.2 hg.2.2 hx hy (List.cons.inj h4).2
    exact ⟨by rw [h1, h3, h5], h6⟩
theorem tx_inj {f g : F} (hf : f.good) (hg : g.good) (h : f.tx = g.tx) : f = g :=
  (tx_pre f g [] [] hf hg (.inl rfl) (.inl rfl) (by rw [h])).1
/-! sizes -/
theorem tx_len : ∀ {f : F}, f.good → f.tx.length ≤ 8 * f.cnt
  | .nil, _ => Nat.le_refl _
  | .cons d s r, h => by
    have h1 := okd_len h.1
    have h2 := tx_len h.2.1
    have h3 := tx_len h.2.2
    simp only [F.tx, F.cnt, List.length_append, List.length_cons]
    omega
theorem len_cnt : ∀ f : F, f.len ≤ f.cnt
  | .nil => Nat.le_refl _
  | .cons d s r => by
    have := len_cnt r
    simp only [F.len, F.cnt]
    omega
theorem len_ps : ∀ f : F, f.ps.length = f.len
  | .nil => rfl
  | .cons d s r => by rw [F.ps, List.length_cons, len_ps r, F.len, Nat.add_comm]
theorem of_ps : ∀ f : F, F.of f.ps = f
  | .nil => rfl
  | .cons d s r => by rw [F.ps, F.of, of_ps r]
theorem ps_of : ∀ l, (F.of l).ps = l
  | [] => rfl
  | (d, s) :: r => by rw [F.of, F.ps, ps_of r]
theorem snoc_ps : ∀ (f : F) (d : List Nat) (s : F), (f.snoc d s).ps = f.ps ++ [(d, s)]
  | .nil, _, _ => rfl
  | .cons e t r, d, s => by rw [F.snoc, F.ps, snoc_ps r, F.ps]; rfl
theorem tx_ps : ∀ f : F, f.tx = (f.ps.map fun p => p.1 ++ 40 :: (p.2.tx ++ [41])).flatten
  | .nil => rfl
  | .cons d s r => by
    rw [F.tx, F.ps, List.map_cons, List.flatten_cons, ← tx_ps r]
    simp
theorem cnt_ps : ∀ f : F, f.cnt = (f.ps.map fun p => 1 + p.2.cnt).sum
  | .nil => rfl
  | .cons d s r => by rw [F.cnt, F.ps, List.map_cons, List.sum_cons, ← cnt_ps r]
theorem cnt_ps2 : ∀ f : F, f.cnt = f.len + (f.ps.map fun p => p.2.cnt).sum
  | .nil => rfl
  | .cons d s r => by rw [F.cnt, F.ps, List.map_cons, List.sum_cons, cnt_ps2 r, F.len]; simp only; omega
theorem dep_mem : ∀ {f : F} {p : List Nat × F}, p ∈ f.ps → 1 + p.2.dep ≤ f.dep
  | .nil, _, h => by cases h
  | .cons d s r, p, h => by
    rw [F.dep]
    rcases List.mem_cons.mp h with rfl | h
    · exact Nat.le_max_left _ _
    · exact Nat.le_trans (dep_mem h) (Nat.le_max_right _ _)
theorem cnt_mem {f : F} {p : List Nat × F} (h : p ∈ f.ps) : 1 + p.2.cnt ≤ f.cnt := by
  have : ∀ (l : List (List Nat × F)), p ∈ l → 1 + p.2.cnt ≤ (l.map fun p => 1 + p.2.cnt).sum := by
    intro l hl
    induction l with
    | nil => cases hl
    | cons q l ih =>
      rw [List.map_cons, List.sum_cons]
      rcases List.mem_cons.mp hl with rfl | hl
      · omega
      · have := ih hl; omega
  rw [cnt_ps f]
  exact this _ h
theorem good_mem : ∀ {f : F} {p : List Nat × F}, f.good → p ∈ f.ps → okd p.1 ∧ p.2.good
  | .nil, _, _, h => by cases h
  | .cons d s r, p, hg, h => by
    rcases List.mem_cons.mp h with rfl | h
    · exact ⟨hg.1, hg.2.1⟩
    · exact good_mem hg.2.2 h
theorem dep_of : ∀ {f : F} {n : Nat}, (∀ p ∈ f.ps, 1 + p.2.dep ≤ n) → f.dep ≤ n
  | .nil, _, _ => Nat.zero_le _
  | .cons d s r, n, h => by
    rw [F.dep]
    exact Nat.max_le.mpr ⟨h (d, s) List.mem_cons_self, dep_of fun p hp => h p (List.mem_cons_of_mem _ hp)⟩
theorem snoc_tx : ∀ (f : F) (d : List Nat) (s : F), (f.snoc d s).tx = f.tx ++ (d ++ 40 :: (s.tx ++ [41]))
  | .nil, d, s => by simp [F.snoc, F.tx]
  | .cons e t r, d, s => by simp [F.snoc, F.tx, snoc_tx r]
theorem snoc_good : ∀ {f : F} {d : List Nat} {s : F}, f.good → okd d → s.good → (f.snoc d s).good
  | .nil, _, _, _, h1, h2 => ⟨h1, h2, trivial⟩
  | .cons e t r, _, _, h, h1, h2 => ⟨h.1, h.2.1, snoc_good h.2.2 h1 h2⟩
theorem snoc_dep : ∀ (f : F) (d : List Nat) (s : F), (f.snoc d s).dep = max f.dep (1 + s.dep)
  | .nil, d, s => by simp [F.snoc, F.dep]
  | .cons e t r, d, s => by
    rw [F.snoc, F.dep, F.dep, snoc_dep r]
    omega
theorem snoc_cnt : ∀ (f : F) (d : List Nat) (s : F), (f.snoc d s).cnt = f.cnt + (1 + s.cnt)
  | .nil, d, s => by simp [F.snoc, F.cnt]
  | .cons e t r, d, s => by
    rw [F.snoc, F.cnt, F.cnt, snoc_cnt r]
    omega
end Tw
namespace K01
open PySem PySem.Spec PyProof.Rows L2 TL HotExc Tw
/-! ### more readings that simp can take -/
def rSumN (K : PySem.W.Frag) (vs : List V) (H : Hp) (Q : VK) : Prop := ∃ a, vs = [V.ref a] ∧ ∃ ns : List Int, SqL K H a (ns.map V.int) ∧ Q (.int ns.sum) H
def rMaxN (K : PySem.W.Frag) (vs : List V) (H : Hp) (Q : VK) : Prop := ∃ a, vs = [V.ref a] ∧ ∃ ns : List Int, SqL K H a (ns.map V.int) ∧ 0 < ns.length ∧ ∀ m, m ∈ ns → (∀ y, y ∈ ns → y ≤ m) → Q (.int m) H
theorem call_sumK {X : Cx} {K : PySem.W.Frag} (h : X.K = K := by rfl) (hc : X.calm = true := by rfl) : CallR X (.builtin "sum") (rSumN K) := h ▸ callR_mono (cr_sum hc) fun _ _ _ ⟨a, e, ns, h, q⟩ => ⟨a, ns, e, h, q⟩
theorem call_maxK {X : Cx} {K : PySem.W.Frag} (h : X.K = K := by rfl) (hc : X.calm = true := by rfl) : CallR X (.builtin "max") (rMaxN K) := h ▸ callR_mono (cr_max hc) fun _ _ _ ⟨a, e, ns, h, h2, q⟩ => ⟨a, ns, e, h, h2, q⟩
section
variable {te : TE} {vs : List Nat} {σ : L2.St} {H1 : Hp} {D : Addr} {Qd : Hp → Prop}
/-- a comprehension over pairs -/
theorem r_lcP {K : PySem.W.Frag} {a : Addr} {j1 j2 : Nat} (xs : List V) (Pv : Nat → Hp → Prop) (h0 : Pv 0 (L2.upd H1 D (.lst []))) (hl : ∀ i H, i ≤ xs.length → Pv i H → SqL K H a xs)
    (hs : ∀ i x H, xs[i]? = some x → Pv i H → ∃ t u v, x = .ref t ∧ SqT K H t [u, v] ∧ wipe (((wipe σ vs).set j1 (some u)).set j2 (some v)) vs = wipe σ vs ∧ ∀ N : VK, (∀ y H4 got, H4 D = some (.lst got) → got.length < sizeLine → Pv (i + 1) (L2.upd H4 D (.lst (got ++ [y]))) → N y H4) → te (((wipe σ vs).set j1 (some u)).set j2 (some v)) H N) (hd : ∀ H, Pv xs.length H → Qd H) :
    LcT (Itl K a) (gTup K 2 (gCons (gName j1) (gCons (gName j2) gNil))) tYes te vs σ H1 D Qd :=
  lc_list (g := gTup K 2 (gCons (gName j1) (gCons (gName j2) gNil))) Pv h0 hl (fun i x H hx hp => by
    obtain ⟨t, u, v, e, h1, h2, h3⟩ := hs i x H hx hp
    refine ⟨t, [u, v], e, h1, rfl, u, [v], rfl, v, [], rfl, rfl, h2, ?_⟩
    simp only [tYes, if_pos]
    exact h3 _ fun y H4 got g1 g2 g3 => ⟨got, g1, g2, g3⟩) hd
end
/-! ### texts and lists of signs -/
def S (l : List Nat) : Str := ⟨l.toArray⟩
theorem tl_S (l : List Nat) : tl (S l) = l := rfl
theorem S_tl (z : Str) : S (tl z) = z := by
  cases z with
  | mk c => simp [S]
theorem S_len (l : List Nat) : (S l).length = l.length := by rw [len_tl, tl_S]
theorem tl_inj {x y : Str} (h : tl x = tl y) : x = y := by rw [← S_tl x, ← S_tl y, h]
theorem S_app (l m : List Nat) : S l ++ S m = S (l ++ m) := tl_inj (by rw [tl_append, tl_S, tl_S, tl_S])
theorem S_inj {l m : List Nat} (h : S l = S m) : l = m := by rw [← tl_S l, ← tl_S m, h]
theorem S_eq {l m : List Nat} : decide (S l = S m) = decide (l = m) := decide_eq_decide.mpr ⟨S_inj, fun e => by rw [e]⟩
theorem S_emp : Str.ofString "" = S [] := tl_inj (by decide +kernel)
theorem S_op : Str.ofString "(" = S [40] := tl_inj (by decide +kernel)
theorem S_cl : Str.ofString ")" = S [41] := tl_inj (by decide +kernel)
theorem S_da : Str.ofString "-" = S [45] := tl_inj (by decide +kernel)
theorem joinL_nil (ps : List (List Nat)) : joinL [] ps = ps.flatten := by
  induction ps with
  | nil => rfl
  | cons p ps ih =>
    cases ps with
    | nil => simp [joinL]
    | cons q r =>
      show p ++ ([] ++ joinL [] (q :: r)) = _
      rw [ih, List.nil_append, List.flatten_cons (l := p)]
theorem join_S (ws : List (List Nat)) : Txt.join (S []) (ws.map S) = S ws.flatten := tl_inj (by
  rw [join_eq, tl_join, tl_S, tl_S, List.map_map, ← joinL_nil]
  congr 1
  exact (List.map_congr_left (g := id) fun l _ => tl_S l).trans (List.map_id ws))
/-! ### trees as data -/
def Fd : F → List Dat
  | .nil => []
  | .cons d s r => .tup [.str (S d), .lst (Fd s)] :: Fd r
def tw (p : List Nat × F) : Dat := .tup [.str (S p.1), .lst (Fd p.2)]
theorem Fd_ps : ∀ f : F, Fd f = f.ps.map tw
  | .nil => rfl
  | .cons d s r => by rw [Fd, F.ps, List.map_cons, Fd_ps r]; rfl
theorem Fd_len (f : F) : (Fd f).length = f.len := by rw [Fd_ps, List.length_map, len_ps]
theorem Fd_dep : ∀ f : F, depL (Fd f) ≤ 2 * f.dep
  | .nil => Nat.le_refl _
  | .cons d s r => by
    have h1 := Fd_dep s
    have h2 := Fd_dep r
    simp only [Fd, depL, Dat.dep, F.dep]
    omega
mutual
theorem At.live {H : Hp} {A : Addr → Prop} : ∀ (d : Dat) (v : V), At H A d v → At H (fun p => A p ∧ H p ≠ none) d v
  | .non, _, h => h
  | .bl _, _, h => h
  | .int _, _, h => h
  | .str _, _, h => h
  | .lst l, _, ⟨a, xs, e, ha, hx, hl, hr⟩ => ⟨a, xs, e, ⟨ha, by rw [hx]; simp⟩, hx, hl, AtL.live l xs hr⟩
  | .tup l, _, ⟨a, xs, e, ha, hx, hl, hr⟩ => ⟨a, xs, e, ⟨ha, by rw [hx]; simp⟩, hx, hl, AtL.live l xs hr⟩
theorem AtL.live {H : Hp} {A : Addr → Prop} : ∀ (l : List Dat) (xs : List V), AtL H A l xs → AtL H (fun p => A p ∧ H p ≠ none) l xs
  | [], _, h => h
  | d :: l, _, ⟨v, r, e, h1, h2⟩ => ⟨v, r, e, At.live d v h1, AtL.live l r h2⟩
end
/-- a tree at a value -/
def TrA (H : Hp) (A : Addr → Prop) (f : F) (v : V) : Prop := At H A (.lst (Fd f)) v
abbrev Tr (H : Hp) (f : F) (v : V) : Prop := TrA H (fun _ => True) f v
theorem TrA.any {H : Hp} {A : Addr → Prop} {f : F} {v : V} (h : TrA H A f v) : Tr H f v := At.mono (fun _ _ => trivial) (fun _ _ _ h => h) _ _ h
theorem TrA.keep {H H' : Hp} {A : Addr → Prop} {f : F} {v : V} (h : TrA H A f v) (k : Keeps H H') : TrA H' A f v := At.mono (fun _ h => h) (fun p o _ h => k p o h) _ _ h
theorem Tr.but {H H' : Hp} {x : Addr} {y : HO} {f : F} {v : V} {A : Addr → Prop} (h : TrA H A f v) (hn : ∀ p, A p → p ≠ x) (k : But x H H') : TrA H' A f v := At.mono (fun _ h => h) (fun p o hp h => k p o (hn p hp) h) _ _ h
/-- the pair of a tree's item -/
def PrA (H : Hp) (A : Addr → Prop) (p : List Nat × F) (x : V) : Prop := ∃ t y, x = .ref t ∧ A t ∧ H t = some (.tup [.str (S p.1), y]) ∧ TrA H A p.2 y
theorem pr_of {H : Hp} {A : Addr → Prop} {p : List Nat × F} {x : V} (h : At H A (tw p) x) : PrA H A p x := by
  obtain ⟨t, xs, rfl, ha, hx, _, v, r, rfl, hv, y, r2, rfl, hy, hr⟩ := h
  have hv : v = .str (S p.1) := hv
  have hr : r2 = [] := hr
  subst hv hr
  exact ⟨t, y, rfl, ha, hx, hy⟩
theorem pr_to {H : Hp} {A : Addr → Prop} {p : List Nat × F} {x : V} (h : PrA H A p x) : At H A (tw p) x := by
  obtain ⟨t, y, rfl, ha, hx, hy⟩ := h
  exact ⟨t, _, rfl, ha, hx, Nat.le_of_ble_eq_true rfl, _, _, rfl, rfl, y, [], rfl, hy, rfl⟩
theorem TrA.get {H : Hp} {A : Addr → Prop} {f : F} {v : V} (h : TrA H A f v) : ∃ (a : Addr) (xs : List V), v = .ref a ∧ A a ∧ H a = some (.lst xs) ∧ xs.length ≤ 1000000 ∧ xs.length = f.len ∧ ∀ (i : Nat) p, f.ps[i]? = some p → ∃ x, xs[i]? = some x ∧ PrA H A p x := by
  obtain ⟨a, xs, e, ha, hx, hl, hr⟩ := h
  refine ⟨a, xs, e, ha, hx, hl, by rw [hr.length, Fd_len], fun i p hp => ?_⟩
  obtain ⟨x, h1, h2⟩ := AtL.get _ xs i (tw p) hr (by rw [Fd_ps, List.getElem?_map, hp]; rfl)
  exact ⟨x, h1, pr_of h2⟩
theorem TrA.inv {H : Hp} {A : Addr → Prop} {f : F} {v : V} (h : TrA H A f v) : ∃ (a : Addr) (xs : List V), v = .ref a ∧ A a ∧ H a = some (.lst xs) ∧ xs.length ≤ 1000000 ∧ xs.length = f.len ∧ ∀ (i : Nat) x, xs[i]? = some x → ∃ p, f.ps[i]? = some p ∧ PrA H A p x := by
  obtain ⟨a, xs, e, ha, hx, hl, hn, hg⟩ := h.get
  refine ⟨a, xs, e, ha, hx, hl, hn, fun i x hi => ?_⟩
  have l1 : i < f.ps.length := by
    rw [len_ps, ← hn]
    exact lt_of_get hi
  obtain ⟨y, h1, h2⟩ := hg i _ (List.getElem?_eq_getElem l1)
  rw [hi] at h1
  cases h1
  exact ⟨_, List.getElem?_eq_getElem l1, h2⟩
theorem mem_get {α : Type} {l : List α} {i : Nat} {x : α} (h : l[i]? = some x) : x ∈ l := List.mem_of_getElem? h
theorem sum_take {α : Type} {l : List α} {i : Nat} {x : α} (h : l[i]? = some x) : l.take (i + 1) = l.take i ++ [x] := by rw [List.take_add_one, h]; rfl
theorem tx_mem {f : F} {p : List Nat × F} (h : p ∈ f.ps) : p.1.length + p.2.tx.length + 2 ≤ f.tx.length := by
  have : ∀ l : List (List Nat × F), p ∈ l → p.1.length + p.2.tx.length + 2 ≤ (l.map fun p => p.1 ++ 40 :: (p.2.tx ++ [41])).flatten.length := by
    intro l hl
    induction l with
    | nil => cases hl
    | cons q l ih =>
      rw [List.map_cons, List.flatten_cons, List.length_append]
      rcases List.mem_cons.mp hl with rfl | hl
      · simp only [List.length_append, List.length_cons, List.length_nil]
        omega
      · have := ih hl; omega
  rw [tx_ps f]
  exact this _ h
theorem len_tx : ∀ f : F, f.len ≤ f.tx.length
  | .nil => Nat.le_refl _
  | .cons d s r => by
    have := len_tx r
    simp only [F.len, F.tx, List.length_append, List.length_cons]
    omega
/-- a def of one tree that tells a thing of it -/
def spTr (n : Nat) (R : F → V) : Sp := fun vs H Q _ => ∃ v f, vs = [v] ∧ Tr H f v ∧ f.dep ≤ n ∧ f.tx.length ≤ 1000000 ∧ ∀ H', Keeps H H' → Q (R f) H'
end K01
namespace K01
open PySem PySem.Spec PyProof.Rows L2 TL HotExc Tw
local macro_rules | `(tactic| walk_at "rd") => `(tactic| simp only [start1, wipe, isR, isBool, isInt, isStr, isLst, isTup, tAsg, gName, gSub, tVar, tC, tOp, tUn, tTest, tIfS, tRet, tRetN, tDrop, tB, tAnd, tOr, tNot, tAndV, tOrV, tNotV, tIf, tCB, tCons, tNil, tNext, tCall, tBM, tTup, tLst, rU, rInW, rNinW, Int.reduceNeg, tG, tG2, sP, tDisp, tPairs, tCallS, tCallSD, tCallT, StX.tStar, tCallK, tCallKS, rTupOf, tDrop, rI0, rI, rEq, rNe, scal, forR_eq, forR2_eq, forS_eq, forL_eq, lcT_eq, lcRT_eq, lcS_eq, rLenX, rLenS, rListOf, tRevL, rMulS, rRepL, rCatL, rSumN, rMaxN, tBM0, rPop, tAug, ipI,  tPart, tNoPart, CwR.tReplC, rAllK, rInSg, rNinSg, sgn_inj, rAddS, rInSt, tChain, tM1, tM0, rSplitN, rJoinN, exists_eq, rIntI, rIntB, rIntS, rStrI, rAbs, rOrd, rMin, rMax, rIxL, rIxX, rSetL, rAppend, rIxS, rSlS, rSlL, tSl, List.map_cons, List.map_nil, List.replicate_succ, List.replicate_zero, List.length_cons, List.length_nil, Nat.reduceSub, Nat.reduceAdd, Nat.zero_add, Nat.sub_self, List.getElem?_cons_zero, List.getElem?_cons_succ, List.set_cons_zero, List.set_cons_succ, List.append_nil, List.nil_append, List.cons_append, Option.some.injEq, not_true_eq_false, reduceCtorEq, exists_eq_left', exists_eq_left, exists_eq', exists_and_left, exists_and_right, V.int.injEq, V.str.injEq, V.bl.injEq, V.ref.injEq, List.cons.injEq, and_true, true_and, and_assoc, decide_eq_true_eq, Bool.not_eq_true', decide_eq_false_iff_not, ite_true, ite_false, if_true, if_false, Bool.not_true, Bool.not_false, Bool.false_eq_true, eq_self_iff_true, reduceIte, ne_eq, Int.reduceEq, not_false_eq_true])
local macro_rules | `(tactic| walk_at "rt") => `(tactic| try walk_at "rd")
local macro_rules | `(tactic| walk_at "st") => `(tactic| (walk_at "rt"; refine r_seq ?_; walk_at "rt"))
local macro_rules | `(tactic| walk_at "hp") => `(tactic| first | assumption | exact upd_same | (rw [upd_ne (by assumption)]; walk_at "hp"))
local macro_rules | `(tactic| walk_at "ex1") => `(tactic| ((with_reducible refine Exists.intro ?w (And.intro ?hx ?_)); (case hx => first | exact sq_of (by walk_at "hp") | exact .inl (sq_of (by walk_at "hp")) | exact rfl | (show _ = some (HO.lst _); walk_at "hp"))))
local macro_rules | `(tactic| walk_at "ex") => `(tactic| repeat (first | walk_at "ex1" | walk_at "rd"))
abbrev s_name : Stmt := topS 53
theorem sc_name : FnScope ["store", "many", "name", "k"] ["store"] (defScope s_name) := ⟨rfl, rfl, rfl, by decide +kernel, rfl, by decide +kernel, by decide +kernel⟩
abbrev s_shuffled : Stmt := topS 49
theorem sc_shuffled : FnScope ["store", "row", "kind", "left", "mixed", "k", "at"] ["store", "row"] (defScope s_shuffled) := ⟨rfl, rfl, rfl, by decide +kernel, rfl, by decide +kernel, by decide +kernel⟩
theorem letm (c : Nat) : (c ∈ (Str.ofString "abcdefghijklmnopqrstuvwxyz").cps.toList) ↔ low c := by
  have e : (Str.ofString "abcdefghijklmnopqrstuvwxyz").cps.toList = (List.range 26).map (· + 97) := by decide +kernel
  rw [e]
  simp only [List.mem_map, List.mem_range, low]
  exact ⟨fun ⟨a, h, e⟩ => ⟨by omega, by omega⟩, fun h => ⟨c - 97, by omega, by omega⟩⟩
theorem digm (c : Nat) : (c ∈ (Str.ofString "0123456789").cps.toList) ↔ 48 ≤ c ∧ c ≤ 57 := by
  have e : (Str.ofString "0123456789").cps.toList = (List.range 10).map (· + 48) := by decide +kernel
  rw [e]
  simp only [List.mem_map, List.mem_range]
  exact ⟨fun ⟨a, h, e⟩ => ⟨by omega, by omega⟩, fun h => ⟨c - 48, by omega, by omega⟩⟩
theorem lodm (c : Nat) : (c ∈ (Str.ofString "abcdefghijklmnopqrstuvwxyz0123456789").cps.toList) ↔ lod c := by
  have e : (Str.ofString "abcdefghijklmnopqrstuvwxyz0123456789").cps.toList = (List.range 26).map (· + 97) ++ (List.range 10).map (· + 48) := by decide +kernel
  rw [e]
  simp only [List.mem_append, List.mem_map, List.mem_range, lod]
  exact ⟨fun h => h.elim (fun ⟨a, h, e⟩ => .inl ⟨by omega, by omega⟩) fun ⟨a, h, e⟩ => .inr ⟨by omega, by omega⟩, fun h => h.elim (fun h => .inl ⟨c - 97, by omega, by omega⟩) fun h => .inr ⟨c - 48, by omega, by omega⟩⟩
def spNam : Sp := fun vs H Q _ => ∃ (a c : Addr), vs = [.ref a] ∧ StoreAt H a c ∧ Drawn H a c (fun v => ∃ l, v = .str (S l) ∧ nm l) Q
theorem cut_len (z : Str) (lo hi : Option Int) : (cutS z lo hi).length ≤ z.length := by
  rw [len_tl, len_tl z]
  show (List.take _ (List.drop _ (tl z))).length ≤ _
  rw [List.length_take, List.length_drop]
  omega
theorem app_len (x y : Str) : (x ++ y).length = x.length + y.length := by rw [len_tl, tl_append, List.length_append, ← len_tl, ← len_tl]
def shortB (v : V) : Bool := match v with | .str y => decide (y.length ≤ 10) | _ => false
theorem short_all {vs : List V} (h : vs.all shortB = true) {v : V} (hv : v ∈ vs) : ∃ y : Str, v = .str y ∧ y.length ≤ 10 := by
  have := List.all_eq_true.mp h v hv
  cases v with
  | str y => exact ⟨y, rfl, by simpa [shortB] using this⟩
  | _ => cases this
def natB (m : Nat) (v : V) : Bool := match v with | .int i => decide (0 ≤ i ∧ i ≤ m) | _ => false
theorem nat_all {m : Nat} {vs : List V} (h : vs.all (natB m) = true) {v : V} (hv : v ∈ vs) : ∃ n : Nat, v = .int n ∧ n ≤ m := by
  have := List.all_eq_true.mp h v hv
  cases v with
  | int i =>
    have := of_decide_eq_true this
    exact ⟨i.toNat, by rw [Int.toNat_of_nonneg this.1], by omega⟩
  | _ => cases this
def Em (t : TE) : Prop := ∀ (σ : L2.St) (H : Hp) (Q Q' : VK), (∀ v H, Q v H → Q' v H) → t σ H Q → t σ H Q'
def Am (t : TA) : Prop := ∀ (σ : L2.St) (H : Hp) (Q Q' : List V → Hp → Prop), (∀ v H, Q v H → Q' v H) → t σ H Q → t σ H Q'
def Rm (r : R2) : Prop := ∀ (x y : V) (H : Hp) (Q Q' : VK), (∀ v H, Q v H → Q' v H) → r x y H Q → r x y H Q'
def Cm (r : List V → Hp → VK → Prop) : Prop := ∀ (xs : List V) (H : Hp) (Q Q' : VK), (∀ v H, Q v H → Q' v H) → r xs H Q → r xs H Q'
theorem m_var {i : Nat} : Em (tVar i) := fun σ H Q Q' k ⟨v, h, q⟩ => ⟨v, h, k _ _ q⟩
theorem m_c {v : V} : Em (tC v) := fun σ H Q Q' k q => k _ _ q
theorem m_nil : Am tNil := fun σ H Q Q' k q => k _ _ q
theorem m_cons {t : TE} {u : TA} (a : Em t) (b : Am u) : Am (tCons t u) := fun σ H Q Q' k q => a _ _ _ _ (fun v H q => b _ _ _ _ (fun vs H q => k _ _ q) q) q
theorem m_op {r : R2} {t u : TE} (a : Rm r) (b : Em t) (c : Em u) : Em (tOp r t u) := fun σ H Q Q' k q => b _ _ _ _ (fun v H q => c _ _ _ _ (fun v H q => a _ _ _ _ _ k q) q) q
theorem m_cb {r : List V → Hp → VK → Prop} {t : TA} (a : Cm r) (b : Am t) : Em (tCB r t) := fun σ H Q Q' k q => b _ _ _ _ (fun v H q => a _ _ _ _ k q) q
theorem m_lenS : Cm rLenS := fun xs H Q Q' k ⟨z, e, l, q⟩ => ⟨z, e, l, k _ _ q⟩
theorem m_rI {g : Int → Int → V} : Rm (rI0 g) := fun x y H Q Q' k ⟨i, j, e, e2, q⟩ => ⟨i, j, e, e2, k _ _ q⟩
theorem m_rInSg : Rm rInSg := fun x y H Q Q' k ⟨c, e, z, e2, q⟩ => ⟨c, e, z, e2, k _ _ q⟩
theorem m_rIxS : Rm rIxS := fun x y H Q Q' k ⟨z, i, c, e, e2, l, a, q⟩ => ⟨z, i, c, e, e2, l, a, k _ _ q⟩
theorem m_test {t : TE} (a : Em t) : TTm (tTest t) := fun σ H Q Q' k q => a _ _ _ _ (fun v H ⟨b, e, q⟩ => ⟨b, e, k _ _ q⟩) q
theorem m_and {t u : TT} (a : TTm t) (b : TTm u) : TTm (tAnd t u) := fun σ H Q Q' k q => a _ _ _ _ (fun v H q => by
  cases v with
  | true => exact b _ _ _ _ k q
  | false => exact k _ _ q) q
theorem m_or {t u : TT} (a : TTm t) (b : TTm u) : TTm (tOr t u) := fun σ H Q Q' k q => a _ _ _ _ (fun v H q => by
  cases v with
  | true => exact k _ _ q
  | false => exact b _ _ _ _ k q) q
/-- a list in another order, new -/
def spShuf (K : PySem.W.Frag) : Sp := fun vs H Q _ => ∃ (a c p : Addr) (xs : List V), vs = [.ref a, .ref p] ∧ StoreAt H a c ∧ H p = some (.lst xs) ∧ p ≠ a ∧ xs.length ≤ 1000 ∧
  ∀ (q : Addr) (ys : List V) (H' : Hp), StoreAt H' a c → But a H H' → H q = none → H' q = some (.lst ys) → ys.Perm xs → Q (.ref q) H'
section
variable {P : Program} {w : World} {K : PySem.W.Frag} {mg : Str → Option Value} {base : Heap}
theorem ok_name {f f_number f_pick : Addr} {fd fd_number fd_pick : FuncData} (B : Bi mg) (D : Dn K mg "_law_name" s_name ["store"] f fd)
    (D_number : Dn K mg "_law_number" s_number ["store", "low", "high"] f_number fd_number) (D_pick : Dn K mg "_law_pick" s_pick ["store", "row"] f_pick fd_pick)
    (G_number : FnOk P w K mg base CX0 4 f_number fd_number ["store", "low", "high"] spRange) (G_pick : FnOk P w K mg base CX0 3 f_pick fd_pick ["store", "row"] spPick) : FnOk P w K mg base CX0 5 f fd ["store"] spNam := by
  refine D.F.ok sc_name (fun vs H Q E h => ?_) (fun cdv A outer s H vs Q E hr h => ?_)
  · obtain ⟨a, c, rfl, _⟩ := h
    rfl
  · obtain ⟨a, c, rfl, S0, q⟩ := h
    refine ⟨_, (pss_cons (ps_set (i := 1) sc_name.nd rfl (.inl rfl) (pe_call G_number (hr.mono (by omega)) (by rfl) D_number.g D_number.F.kp D_number.b .nil pass0 (pa_cons (pv 0) (pa_cons pe_int (pa_cons pe_int pa_nil)))))
      (pss_cons (ps_set (i := 2) sc_name.nd rfl (.inl rfl) (pe_call G_pick (hr.mono (by omega)) (by rfl) D_pick.g D_pick.F.kp D_pick.b .nil pass0 (pa_cons (pv 0) (pa_cons pe_str pa_nil))))
      (pss_cons (ps_for PassesOwn.never rfl (pi_range1 (by rfl) B.range (pa_cons (pe_op op_sub (pv 1) pe_int) pa_nil)) (pg_name (i := 3) sc_name.nd rfl (.inl rfl)) (pss_one (ps_set (i := 2) sc_name.nd rfl (.inl rfl) (pe_op op_addS (pv 2) (pe_call G_pick (hr.mono (by omega)) (by rfl) D_pick.g D_pick.F.kp D_pick.b .nil pass0 (pa_cons (pv 0) (pa_cons pe_str pa_nil)))))))
      (pss_one (ps_ret (pv 2)))))), ?_⟩
    walk_at "st"
    refine ⟨a, c, 1, 6, rfl, S0, by decide, by decide, fun v H1 S1 b1 ⟨many, e, m0, m1⟩ => ?_⟩
    subst e
    walk_at "st"
    refine ⟨a, c, _, rfl, S1, by decide +kernel, by decide +kernel, fun v H2 S2 b2 ⟨k, hk, e⟩ => ?_⟩
    subst e
    have hk := (letm k).mp hk
    walk_at "st"
    refine ⟨by omega, by omega, ?_⟩
    refine r_range (fun i σ H' => (∃ (l : List Nat) (y : Option V), σ = [some (.ref a), some (.int many), some (.str (S l)), y] ∧ ∃ r, l = k :: r ∧ r.length = i ∧ ∀ x ∈ r, lod x) ∧ StoreAt H' a c ∧ But a H H')
      ⟨⟨[k], _, rfl, [], rfl, rfl, fun _ h => by cases h⟩, S2, b1.trans b2⟩ ?_ ?_
    · rintro i σ H3 hi ⟨⟨l, y, rfl, r, rfl, hr1, hr2⟩, S3, b3⟩ N kk
      walk_at "rt"
      refine ⟨a, c, _, rfl, S3, by decide +kernel, by decide +kernel, fun v H4 S4 b4 ⟨k', hk', e⟩ => ?_⟩
      subst e
      have hk' := (lodm k').mp hk'
      walk_at "rt"
      refine ⟨?_, kk _ _ ⟨⟨(k :: r) ++ [k'], _, by rw [← S_app]; rfl, r ++ [k'], rfl, by rw [List.length_append, hr1]; rfl, fun x hx => ?_⟩, S4, b3.trans b4⟩⟩
      · rw [S_len]
        show (k :: r).length + 1 ≤ _
        exact line_of (by rw [List.length_cons]; omega)
      · rcases List.mem_append.mp hx with hx | hx
        · exact hr2 x hx
        · rw [List.mem_singleton.mp hx]; exact hk'
    · rintro σ H3 ⟨⟨l, y, rfl, r, rfl, hr1, hr2⟩, S3, b3⟩
      walk_at "rt"
      exact q _ _ S3 b3 ⟨_, rfl, hk, by omega, hr2⟩
theorem ok_shuffled {f f_take : Addr} {fd fd_take : FuncData} (B : Bi mg) (D : Dn K mg "_law_shuffled" s_shuffled ["store", "row"] f fd) (D_take : Dn K mg "_law_take" s_take ["store", "many"] f_take fd_take)
    (G_take : FnOk P w K mg base CX0 2 f_take fd_take ["store", "many"] spTake) : FnOk P w K mg base CX0 3 f fd ["store", "row"] (spShuf K) := by
  refine D.F.ok sc_shuffled (fun vs H Q E h => ?_) (fun cdv A outer s H vs Q E hr h => ?_)
  · obtain ⟨a, c, p, xs, rfl, _⟩ := h
    rfl
  · obtain ⟨a, c, p, xs, rfl, S, hp, hpa, hl, q⟩ := h
    refine ⟨_, (pss_cons (ps_set (i := 2) sc_shuffled.nd rfl (.inl rfl) (pe_call G_take (hr.mono (by omega)) (by rfl) D_take.g D_take.F.kp D_take.b .nil pass0 (pa_cons (pv 0) (pa_cons pe_int pa_nil))))
      (pss_cons (ps_if (pt_cmpR op_eq (pv 2) pe_int (nomark _)) (pss_one (ps_ret (pe_callTy (call_listK (K := K)) (by rfl) B.list_ (by decide +kernel) (pa_cons (pv 1) pa_nil)))) pss_nil)
      (pss_cons (ps_if (pt_cmpR op_eq (pv 2) pe_int (nomark _)) (pss_one (ps_ret (pe_revLK (K := K) (pe_callTy (call_listK (K := K)) (by rfl) B.list_ (by decide +kernel) (pa_cons (pv 1) pa_nil))))) pss_nil)
      (pss_cons (ps_set (i := 3) sc_shuffled.nd rfl (.inl rfl) (pe_callTy (call_listK (K := K)) (by rfl) B.list_ (by decide +kernel) (pa_cons (pv 1) pa_nil)))
      (pss_cons (ps_set (i := 4) sc_shuffled.nd rfl (.inl rfl) (pe_lst pa_nil))
      (pss_cons (ps_for PassesOwn.never rfl (pi_range1 (by rfl) B.range (pa_cons (pe_callB (call_lenXK (K := K)) (by rfl) B.len PySem.boot_len (pa_cons (pv 1) pa_nil)) pa_nil)) (pg_name (i := 5) sc_shuffled.nd rfl (.inl rfl)) (pss_cons (ps_set (i := 6) sc_shuffled.nd rfl (.inl rfl) (pe_call G_take (hr.mono (by omega)) (by rfl) D_take.g D_take.F.kp D_take.b .nil pass0 (pa_cons (pv 0) (pa_cons (pe_callB (call_lenXK (K := K)) (by rfl) B.len PySem.boot_len (pa_cons (pv 3) pa_nil)) pa_nil))))
      (pss_cons (ps_expr (pe_bm PySem.F.plainAttrs_list PySem.F.slot_list_append PySem.F.type_list_append mt_append (pv 4) (pa_cons (pe_ix (ix_listK (K := K)) (pv 3) (pv 6) (fun _ _ => rfl)) pa_nil)))
      (pss_one (ps_set (i := 3) sc_shuffled.nd rfl (.inl rfl) (pe_op op_catL (pe_slice (sl_listK (K := K)) (pv 3) po_none (po_some (pv 6))) (pe_slice (sl_listK (K := K)) (pv 3) (po_some (pe_op op_add (pv 6) pe_int)) po_none)))))))
      (pss_one (ps_ret (pv 4))))))))), ?_⟩
    walk_at "st"
    refine ⟨a, c, _, rfl, S, by decide, fun v H1 S1 b1 ⟨r, e, r0, r1⟩ => ?_⟩
    subst e
    have hp1 := b1 p _ hpa hp
    walk_at "st"
    refine ite2 (fun _ => ⟨_, .inl (sq_of hp1), fun l nl => q l xs _ (S1.new nl) (b1.putNew (b1.free S1 nl)) (b1.free S1 nl) upd_same (List.Perm.refl _)⟩) (fun _ => ?_)
    walk_at "st"
    refine ite2 (fun _ => ⟨_, .inl (sq_of hp1), fun l nl => ?_⟩) (fun _ => ?_)
    · refine ⟨xs, sq_of upd_same, fun l2 nl2 => ?_⟩
      have nl3 : H1 l2 = none := (Same.new nl).free nl2
      exact q l2 xs.reverse _ ((S1.new nl).new nl2) ((b1.putNew (b1.free S1 nl)).putNew (b1.free S1 nl3)) (b1.free S1 nl3) upd_same (List.reverse_perm xs)
    walk_at "st"
    refine ⟨_, .inl (sq_of hp1), fun l nl => ?_⟩
    have npl : p ≠ l := ne_of_none hp1 nl
    walk_at "st"
    refine ⟨by decide, fun m nm => ?_⟩
    have hl2 : (L2.upd H1 l (.lst xs)) l = some (.lst xs) := upd_same
    have nlm : l ≠ m := ne_of_none hl2 nm
    have nm1 : H1 m = none := (Same.new nl).free nm
    have npm : p ≠ m := ne_of_none hp1 nm1
    have ma := S1.ne1 nm1
    have mc := S1.ne2 nm1
    walk_at "st"
    refine ⟨_, .inl (sq_of (by rw [upd_ne npm, upd_ne npl]; exact hp1)), by omega, by omega, ?_⟩
    refine r_range (fun i σ H' => (∃ (l : Addr) (x y : Option V), σ = [some (.ref a), some (.ref p), some (.int r), some (.ref l), some (.ref m), x, y] ∧ l ≠ a ∧ l ≠ m ∧ StoreAt H' a c ∧ But a H1 H' ∧ ∃ ls ms : List V, ms.length = i ∧ H' l = some (.lst ls) ∧ H' m = some (.lst ms) ∧ (ms ++ ls).Perm xs))
      ⟨l, _, _, rfl, S1.ne1 nl, nlm, (S1.new nl).new nm, (But.new nl).putNew nm1, xs, [], rfl, by rw [upd_ne nlm]; exact hl2, upd_same, List.Perm.refl _⟩ ?_ ?_
    · rintro i σ H2 hi ⟨l, x, y, rfl, la, lm, S2, b2, ls, ms, hms, hls, hmm, hpm⟩ N k
      have hpl := hpm.length_eq
      rw [List.length_append] at hpl
      walk_at "st"
      refine ⟨_, .inl (sq_of hls), ?_⟩
      refine ⟨a, c, _, rfl, S2, by omega, fun v H3 S3 b3 ⟨t, e, t0, t1⟩ => ?_⟩
      subst e
      have hls3 := b3 l _ la hls
      have hmm3 := b3 m _ ma hmm
      obtain ⟨kk, hk, hk2⟩ := atI_get (xs := ls) (i := t) t0 (by omega)
      have hkl := lt_of_get hk2
      obtain ⟨tn, rfl⟩ : ∃ tn : Nat, t = (tn : Int) := ⟨t.toNat, by omega⟩
      rw [Int.toNat_natCast] at hk2 hkl
      walk_at "st"
      refine ⟨.inl ⟨rfl, _, sq_of hmm3⟩, _, sq_of hls3, _, hk, _, hmm3, size_ok (by omega), ?_⟩
      have hls4 : (L2.upd H3 m (.lst (ms ++ [kk]))) l = some (.lst ls) := by rw [upd_ne lm]; exact hls3
      have S4 : StoreAt (L2.upd H3 m (.lst (ms ++ [kk]))) a c := S3.put ma mc
      have b4 : But a H1 (L2.upd H3 m (.lst (ms ++ [kk]))) := (b2.trans b3).putNew nm1
      have hm4 : (L2.upd H3 m (.lst (ms ++ [kk]))) m = some (.lst (ms ++ [kk])) := upd_same
      generalize L2.upd H3 m (.lst (ms ++ [kk])) = H4 at hls4 S4 b4 hm4
      walk_at "rt"
      have ex1 : ((tn : Int) + 1) = ((tn + 1 : Nat) : Int) := by omega
      refine ⟨_, sq_of hls4, fun q1 nq1 => ?_⟩
      have hls5 : (L2.upd H4 q1 (.lst (cutV ls none (some (tn : Int))))) l = some (.lst ls) := by rw [upd_ne (ne_of_none hls4 nq1)]; exact hls4
      refine ⟨_, sq_of hls5, fun q2 nq2 => ?_⟩
      have n12 : q1 ≠ q2 := ne_of_none (upd_same (H := H4) (a := q1) (o := .lst (cutV ls none (some (tn : Int))))) nq2
      refine ⟨_, by rw [upd_ne n12]; exact upd_same, _, upd_same, ?_, fun q3 nq3 => ?_⟩
      · rw [cut_to (by omega), ex1, cut_from (by omega), List.length_take, List.length_drop]
        exact line_of (by omega)
      have s45 : Same H4 (L2.upd (L2.upd H4 q1 (.lst (cutV ls none (some (tn : Int))))) q2 (.lst (cutV ls (some ((tn : Int) + 1)) none))) := (Same.new nq1).trans (Same.new nq2)
      have nq34 : H4 q3 = none := s45.free nq3
      have hm3 : m ≠ q3 := ne_of_none hm4 nq34
      refine k _ _ ⟨q3, _, _, rfl, S4.ne1 nq34, hm3.symm, ((S4.new nq1).new nq2).new nq3, ((b4.trans (But.of s45)).putNew (b4.free S4 nq34)), cutV ls none (some (tn : Int)) ++ cutV ls (some ((tn : Int) + 1)) none, ms ++ [kk], by rw [List.length_append, hms]; rfl, upd_same, by rw [upd_ne hm3]; exact s45 _ _ hm4, ?_⟩
      rw [cut_to (by omega), ex1, cut_from (by omega), List.append_assoc]
      exact ((perm_pick hk2).append_left ms).trans hpm
    · rintro σ H2 ⟨l, x, y, rfl, la, lm, S2, b2, ls, ms, hms, hls, hmm, hpm⟩
      have hpl := hpm.length_eq
      rw [List.length_append] at hpl
      have e : ls = [] := List.length_eq_zero_iff.mp (by omega)
      subst e
      rw [List.append_nil] at hpm
      walk_at "rt"
      exact q m ms H2 S2 (b1.trans b2) (b1.free S1 nm1) hmm hpm
theorem ok_size {f f_take : Addr} {fd fd_take : FuncData} (B : Bi mg) (D : Dn K mg "_law_size" s_size ["store", "low", "high"] f fd) (D_take : Dn K mg "_law_take" s_take ["store", "many"] f_take fd_take)
    (G_take : FnOk P w K mg base CX0 2 f_take fd_take ["store", "many"] spTake) : FnOk P w K mg base CX0 3 f fd ["store", "low", "high"] spRange := by
  refine D.F.ok sc_size (fun vs H Q E h => ?_) (fun cdv A outer s H vs Q E hr h => ?_)
  · obtain ⟨a, c, lo, hi, rfl, _⟩ := h
    rfl
  · obtain ⟨a, c, lo, hi, rfl, S, hlh, hw, q⟩ := h
    refine ⟨_, (pss_cons (ps_set (i := 3) sc_size.nd rfl (.inl rfl) (pe_call G_take (hr.mono (by omega)) (by rfl) D_take.g D_take.F.kp D_take.b .nil pass0 (pa_cons (pv 0) (pa_cons pe_int pa_nil))))
      (pss_cons (ps_if (pt_cmpR op_lt (pv 3) pe_int (nomark _)) (pss_one (ps_ret (pv 1))) pss_nil)
      (pss_cons (ps_if (pt_cmpR op_eq (pv 3) pe_int (nomark _)) (pss_one (ps_ret (pv 2))) pss_nil)
      (pss_cons (ps_if (pt_cmpR op_lt (pv 3) pe_int (nomark _)) (pss_one (ps_ret (pe_op op_add (pv 1) (pe_call G_take (hr.mono (by omega)) (by rfl) D_take.g D_take.F.kp D_take.b .nil pass0 (pa_cons (pv 0) (pa_cons (pe_op op_add (pe_op op_sub (pv 2) (pv 1)) pe_int) pa_nil)))))) pss_nil)
      (pss_one (ps_ret (pe_op op_add (pv 1) (pe_call G_take (hr.mono (by omega)) (by rfl) D_take.g D_take.F.kp D_take.b .nil pass0 (pa_cons (pv 0) (pa_cons (pe_op op_add (pe_callB (call_minI rfl) (by rfl) B.min (by decide +kernel) (pa_cons (pe_op op_sub (pv 2) (pv 1)) (pa_cons pe_int pa_nil))) pe_int) pa_nil)))))))))), ?_⟩
    walk_at "st"
    refine ⟨a, c, _, rfl, S, by decide, fun v H1 S1 b1 ⟨r, e, r0, r1⟩ => ?_⟩
    subst e
    walk_at "st"
    refine ite2 (fun _ => q _ _ S1 b1 ⟨_, rfl, by omega, by omega⟩) (fun _ => ?_)
    walk_at "st"
    refine ite2 (fun _ => q _ _ S1 b1 ⟨_, rfl, by omega, by omega⟩) (fun _ => ?_)
    walk_at "st"
    refine ite2 (fun _ => ?_) (fun _ => ?_)
    · refine ⟨a, c, _, rfl, S1, by omega, fun v H2 S2 b2 ⟨k, e, k0, k1⟩ => ?_⟩
      subst e
      walk_at "rt"
      exact q _ _ S2 (b1.trans b2) ⟨_, rfl, by omega, by omega⟩
    · walk_at "rt"
      refine ⟨a, c, _, rfl, S1, by split <;> omega, fun v H2 S2 b2 ⟨k, e, k0, k1⟩ => ?_⟩
      subst e
      walk_at "rt"
      exact q _ _ S2 (b1.trans b2) ⟨_, rfl, by omega, by split at k1 <;> omega⟩
end
end K01
namespace K01
open PySem PySem.Spec PyProof.Rows L2 TL HotExc Tw
local macro_rules | `(tactic| walk_at "rd") => `(tactic| simp only [start1, wipe, isR, isBool, isInt, isStr, isLst, isTup, tAsg, gName, gSub, tVar, tC, tOp, tUn, tTest, tIfS, tRet, tRetN, tDrop, tB, tAnd, tOr, tNot, tAndV, tOrV, tNotV, tIf, tCB, tCons, tNil, tNext, tCall, tBM, tTup, tLst, rU, rInW, rNinW, Int.reduceNeg, tG, tG2, sP, tDisp, tPairs, tCallS, tCallSD, tCallT, StX.tStar, tCallK, tCallKS, rTupOf, tDrop, rI0, rI, rEq, rNe, scal, forR_eq, forR2_eq, forS_eq, forL_eq, lcT_eq, lcRT_eq, lcS_eq, rLenX, rLenS, rListOf, tRevL, rMulS, rRepL, rCatL, rSumN, rMaxN, tBM0, rPop, tAug, ipI,  tPart, tNoPart, CwR.tReplC, rAllK, rInSg, rNinSg, sgn_inj, rAddS, rInSt, tChain, tM1, tM0, rSplitN, rJoinN, exists_eq, rIntI, rIntB, rIntS, rStrI, rAbs, rOrd, rMin, rMax, rIxL, rIxX, rSetL, rAppend, rIxS, rSlS, rSlL, tSl, List.map_cons, List.map_nil, List.replicate_succ, List.replicate_zero, List.length_cons, List.length_nil, Nat.reduceSub, Nat.reduceAdd, Nat.zero_add, Nat.sub_self, List.getElem?_cons_zero, List.getElem?_cons_succ, List.set_cons_zero, List.set_cons_succ, List.append_nil, List.nil_append, List.cons_append, Option.some.injEq, not_true_eq_false, reduceCtorEq, exists_eq_left', exists_eq_left, exists_eq', exists_and_left, exists_and_right, V.int.injEq, V.str.injEq, V.bl.injEq, V.ref.injEq, List.cons.injEq, and_true, true_and, and_assoc, decide_eq_true_eq, Bool.not_eq_true', decide_eq_false_iff_not, ite_true, ite_false, if_true, if_false, Bool.not_true, Bool.not_false, Bool.false_eq_true, eq_self_iff_true, reduceIte, ne_eq, Int.reduceEq, not_false_eq_true])
local macro_rules | `(tactic| walk_at "rt") => `(tactic| try walk_at "rd")
local macro_rules | `(tactic| walk_at "st") => `(tactic| (walk_at "rt"; refine r_seq ?_; walk_at "rt"))
local macro_rules | `(tactic| walk_at "hp") => `(tactic| first | assumption | exact upd_same | (rw [upd_ne (by assumption)]; walk_at "hp"))
local macro_rules | `(tactic| walk_at "ex1") => `(tactic| ((with_reducible refine Exists.intro ?w (And.intro ?hx ?_)); (case hx => first | exact sq_of (by walk_at "hp") | exact .inl (sq_of (by walk_at "hp")) | exact rfl | (show _ = some (HO.lst _); walk_at "hp"))))
local macro_rules | `(tactic| walk_at "ex") => `(tactic| repeat (first | walk_at "ex1" | walk_at "rd"))
abbrev s_unlike : Stmt := topS 55
theorem sc_unlike : FnScope ["name", "taken", "k"] ["name", "taken"] (defScope s_unlike) := ⟨rfl, rfl, rfl, by decide +kernel, rfl, by decide +kernel, by decide +kernel⟩
abbrev s_names : Stmt := topS 56
theorem sc_names : FnScope ["store", "many", "taken", "kind", "stem", "at", "found", "k", "name", "j"] ["store", "many", "taken"] (defScope s_names) := ⟨rfl, rfl, rfl, by decide +kernel, rfl, by decide +kernel, by decide +kernel⟩
/-! ### names -/
/-- the spare names -/
def spare (k : Nat) : Str := Str.ofString "q" ++ (toString ((k : Nat) : Int) : Str)
theorem spare_ok : ((List.range 64).all fun k => decide (nm (tl (spare k)))) = true := by decide +kernel
theorem spare_nd : ((List.range 64).map spare).Nodup := by decide +kernel
theorem spare_nm {k : Nat} (h : k < 64) : nm (tl (spare k)) := of_decide_eq_true (List.all_eq_true.mp spare_ok k (List.mem_range.mpr h))
theorem nd_len {α : Type} [DecidableEq α] : ∀ (l m : List α), l.Nodup → (∀ x ∈ l, x ∈ m) → l.length ≤ m.length
  | [], _, _, _ => Nat.zero_le _
  | x :: l, m, nd, h => by
    obtain ⟨n1, n2⟩ := List.nodup_cons.mp nd
    have hx := h x List.mem_cons_self
    have := nd_len l (m.erase x) n2 fun y hy => (List.mem_erase_of_ne (fun e => n1 (by rw [← e]; exact hy))).mpr (h y (List.mem_cons_of_mem _ hy))
    rw [List.length_erase_of_mem hx] at this
    have := List.length_pos_of_mem hx
    rw [List.length_cons]
    omega
/-- of more spare names than are taken one is free -/
theorem spare_free {ts : List Str} {n : Nat} (hn : n ≤ 64) (hl : ts.length < n) : ∃ k, k < n ∧ spare k ∉ ts := by
  apply Classical.byContradiction
  intro h
  have hs : ∀ x ∈ (List.range n).map spare, x ∈ ts := fun x hx => by
    obtain ⟨k, hk, rfl⟩ := List.mem_map.mp hx
    exact Classical.byContradiction fun z => h ⟨k, List.mem_range.mp hk, z⟩
  have nd : ((List.range n).map spare).Nodup := by
    have : ((List.range n).map spare).Sublist ((List.range 64).map spare) := (List.range_sublist.mpr hn).map _
    exact this.nodup spare_nd
  have := nd_len _ _ nd hs
  rw [List.length_map, List.length_range] at this
  omega
/-- a name, not one of those that are taken -/
def spUnlike : Sp := fun vs H Q _ => ∃ (z : Str) (p : Addr) (ts : List Str), vs = [.str z, .ref p] ∧ nm (tl z) ∧ H p = some (.lst (ts.map V.str)) ∧ ts.length < 60 ∧ ∀ y : Str, nm (tl y) → y ∉ ts → Q (.str y) H
section
variable {P : Program} {w : World} {K : PySem.W.Frag} {mg : Str → Option Value} {base : Heap}
theorem ok_unlike {f : Addr} {fd : FuncData} (B : Bi mg) (D : Dn K mg "_law_unlike" s_unlike ["name", "taken"] f fd) : FnOk P w K mg base CX0 1 f fd ["name", "taken"] spUnlike := by
  refine D.F.ok sc_unlike (fun vs H Q E h => ?_) (fun cdv A outer s H vs Q E hr h => ?_)
  · obtain ⟨z, p, ts, rfl, _⟩ := h
    rfl
  · obtain ⟨z, p, ts, rfl, hz, hp, hl, q⟩ := h
    refine ⟨_, (pss_cons (ps_if (pt_cmpR (op_ninW (K := K)) (pv 0) (pv 1) (by rfl)) (pss_one (ps_ret (pv 0))) pss_nil)
      (pss_cons (ps_for PassesOwn.never rfl (pi_range1 (by rfl) B.range (pa_cons (pe_op op_add (pe_callB (call_lenXK (K := K)) (by rfl) B.len PySem.boot_len (pa_cons (pv 1) pa_nil)) pe_int) pa_nil)) (pg_name (i := 2) sc_unlike.nd rfl (.inl rfl)) (pss_one (ps_if (pt_cmpR (op_ninW (K := K)) (pe_op op_addS pe_str (pe_callTy call_strI (by rfl) B.str_ (by decide +kernel) (pa_cons (pv 2) pa_nil))) (pv 1) (by rfl)) (pss_one (ps_ret (pe_op op_addS pe_str (pe_callTy call_strI (by rfl) B.str_ (by decide +kernel) (pa_cons (pv 2) pa_nil))))) pss_nil)))
      (pss_one (ps_ret (pv 0))))), ?_⟩
    walk_at "st"
    refine ⟨ts, .inl (sq_of hp), ite2 (fun h => q z hz h) (fun _ => ?_)⟩
    walk_at "st"
    refine ⟨_, .inl (sq_of hp), by rw [List.length_map]; omega, by rw [List.length_map]; omega, ?_⟩
    obtain ⟨j, hj, hjt⟩ := spare_free (ts := ts) (n := ts.length + 1) (by omega) (by omega)
    refine r_range (fun i σ H' => (∃ x, σ = [some (.str z), some (.ref p), x]) ∧ H' = H ∧ i ≤ j) ⟨⟨_, rfl⟩, rfl, Nat.zero_le _⟩ ?_ ?_
    · rintro i σ H' hi ⟨⟨x, rfl⟩, rfl, hij⟩ N kk
      rw [List.length_map] at hi
      have hi : i < 64 := by omega
      have e : ((0 : Int) + (i : Int)) = ((i : Nat) : Int) := Int.zero_add _
      have lg : ((0 : Int) + (i : Int)).natAbs.log2 < 1920 := by
        rw [e]
        exact (show ∀ k, k < 64 → k.log2 < 1920 by decide) i hi
      have sl := okd_len (.inr (spare_nm hi))
      rw [← len_tl, spare, app_len] at sl
      have hL : (Str.ofString "q").length + (Str.ofString (toString ((0 : Int) + (i : Int)))).length ≤ sizeLine := line_of (by rw [e]; exact Nat.le_trans sl (by decide))
      walk_at "rt"
      refine ⟨lg, hL, ts, .inl (sq_of hp), ite2 (fun h => ⟨lg, hL, ?_⟩) (fun h => kk _ _ ⟨⟨_, rfl⟩, rfl, ?_⟩)⟩
      · rw [e] at h ⊢
        exact q (spare i) (spare_nm hi) h
      · rw [e] at h
        have : i ≠ j := fun z => h (by rw [z]; exact hjt)
        omega
    · rintro σ H' ⟨⟨x, rfl⟩, rfl, hij⟩
      rw [List.length_map] at hij
      omega
theorem cut_pre (l : List Nat) (k : Nat) : cutS (S l) none (some (k : Int)) = S (l.take k) := by
  unfold cutS
  rw [HT.sIx_none, HT.sIx_nat, List.drop_zero, Nat.sub_zero]
  show S _ = _
  congr 1
  show List.take (min k (S l).length) l = _
  rw [S_len]
  by_cases h : k ≤ l.length
  · rw [Nat.min_eq_left h]
  · rw [Nat.min_eq_right (by omega), List.take_length, List.take_of_length_le (by omega)]
theorem cut_suf (l : List Nat) (k : Nat) : cutS (S l) (some (k : Int)) none = S (l.drop k) := by
  unfold cutS
  rw [HT.sIx_none, HT.sIx_nat]
  show S _ = _
  congr 1
  show List.take ((S l).length - min k (S l).length) (l.drop (min k (S l).length)) = _
  rw [S_len]
  by_cases h : k ≤ l.length
  · rw [Nat.min_eq_left h, List.take_of_length_le (by rw [List.length_drop]; exact Nat.le_refl _)]
  · rw [Nat.min_eq_right (by omega), List.drop_length, List.drop_eq_nil_of_le (by omega), List.take_nil]
theorem nm_mix {l ds : List Nat} {k : Nat} (h : nm l) (hk : 1 ≤ k) (hd : ∀ x ∈ ds, lod x) (hl : (l.take k).length + ds.length ≤ 6) : nm (l.take k ++ ds) := by
  cases l with
  | nil => cases h
  | cons x r =>
    obtain ⟨k, rfl⟩ : ∃ j, k = j + 1 := ⟨k - 1, by omega⟩
    rw [List.take_succ_cons] at hl ⊢
    refine ⟨h.1, ?_, fun y hy => ?_⟩
    · show (r.take k ++ ds).length ≤ 5
      rw [List.length_append]
      rw [List.length_cons] at hl
      omega
    · rcases List.mem_append.mp hy with hy | hy
      · exact h.2.2 y (List.mem_of_mem_take hy)
      · exact hd y hy
theorem digs_ok : ((List.range 64).all fun k => decide ((tl (Str.ofString (toString ((k : Nat) : Int)))).length ≤ 2 ∧ ∀ x ∈ tl (Str.ofString (toString ((k : Nat) : Int))), lod x)) = true := by decide +kernel
theorem digs {k : Nat} (h : k < 64) : (tl (Str.ofString (toString ((k : Nat) : Int)))).length ≤ 2 ∧ ∀ x ∈ tl (Str.ofString (toString ((k : Nat) : Int))), lod x := of_decide_eq_true (List.all_eq_true.mp digs_ok k (List.mem_range.mpr h))
theorem flat_one : ∀ cs : List Nat, (cs.map fun c => [c]).flatten = cs
  | [] => rfl
  | c :: cs => by rw [List.map_cons, List.flatten_cons, flat_one cs]; rfl
theorem sum_len' (ls : List (List Nat)) : ((ls.map S).map (·.length)).sum = ls.flatten.length := by
  induction ls with
  | nil => rfl
  | cons l ls ih => rw [List.map_cons, List.map_cons, List.sum_cons, ih, S_len, List.flatten_cons, List.length_append]
theorem perm_strs {ys : List V} {ws : List Str} (h : ys.Perm (ws.map V.str)) : ∃ zs : List Str, ys = zs.map V.str ∧ zs.Perm ws := by
  have : ∀ v ∈ ys, ∃ z, v = V.str z := fun v hv => by
    obtain ⟨z, _, e⟩ := List.mem_map.mp (h.mem_iff.mp hv)
    exact ⟨z, e.symm⟩
  have f : ∀ v : V, Str := fun v => match v with | .str z => z | _ => Str.empty
  refine ⟨ys.map (fun v => match v with | .str z => z | _ => Str.empty), ?_, ?_⟩
  · rw [List.map_map]
    refine (List.map_id ys).symm.trans (List.map_congr_left fun v hv => ?_)
    obtain ⟨z, rfl⟩ := this v hv
    rfl
  · have := h.map (fun v => match v with | V.str z => z | _ => Str.empty)
    rw [List.map_map] at this
    exact this.trans (.of_eq ((List.map_congr_left fun z _ => rfl).trans (List.map_id ws)))
/-- new names, all unlike one another and those that are taken -/
def NamesL (taken : List Str) (ws : List Str) : Prop := (∀ z ∈ ws, nm (tl z) ∧ z ∉ taken) ∧ ws.Nodup
def spNames : Sp := fun vs H Q _ => ∃ (a c p : Addr) (many : Nat) (ts : List Str), vs = [.ref a, .int many, .ref p] ∧ StoreAt H a c ∧ H p = some (.lst (ts.map V.str)) ∧ p ≠ a ∧ many ≤ 26 ∧ ts.length ≤ 30 ∧
  ∀ q ws H', StoreAt H' a c → But a H H' → H q = none → H' q = some (.lst (ws.map V.str)) → ws.length = many → NamesL ts ws → Q (.ref q) H'
theorem ok_names {f f_take f_name f_pick f_unlike f_shuffled : Addr} {fd fd_take fd_name fd_pick fd_unlike fd_shuffled : FuncData} (B : Bi mg) (D : Dn K mg "_law_names" s_names ["store", "many", "taken"] f fd) (D_take : Dn K mg "_law_take" s_take ["store", "many"] f_take fd_take)
    (D_name : Dn K mg "_law_name" s_name ["store"] f_name fd_name) (D_pick : Dn K mg "_law_pick" s_pick ["store", "row"] f_pick fd_pick) (D_unlike : Dn K mg "_law_unlike" s_unlike ["name", "taken"] f_unlike fd_unlike) (D_shuffled : Dn K mg "_law_shuffled" s_shuffled ["store", "row"] f_shuffled fd_shuffled)
    (G_take : FnOk P w K mg base CX0 2 f_take fd_take ["store", "many"] spTake) (G_name : FnOk P w K mg base CX0 5 f_name fd_name ["store"] spNam) (G_pick : FnOk P w K mg base CX0 3 f_pick fd_pick ["store", "row"] spPick) (G_unlike : FnOk P w K mg base CX0 1 f_unlike fd_unlike ["name", "taken"] spUnlike) (G_shuffled : FnOk P w K mg base CX0 3 f_shuffled fd_shuffled ["store", "row"] (spShuf K)) :
    FnOk P w K mg base CX0 6 f fd ["store", "many", "taken"] spNames := by
  refine D.F.ok sc_names (fun vs H Q E h => ?_) (fun cdv A outer s H vs Q E hr h => ?_)
  · obtain ⟨a, c, p, many, ts, rfl, _⟩ := h
    rfl
  · obtain ⟨a, c, p, many, ts, rfl, S0, hp, pa, hm, hts, q⟩ := h
    refine ⟨_, (pss_cons (ps_set (i := 3) sc_names.nd rfl (.inl rfl) (pe_call G_take (hr.mono (by omega)) (by rfl) D_take.g D_take.F.kp D_take.b .nil pass0 (pa_cons (pv 0) (pa_cons pe_int pa_nil))))
      (pss_cons (ps_set (i := 4) sc_names.nd rfl (.inl rfl) (pe_call G_name (hr.mono (by omega)) (by rfl) D_name.g D_name.F.kp D_name.b .nil pass0 (pa_cons (pv 0) pa_nil)))
      (pss_cons (ps_set (i := 5) sc_names.nd rfl (.inl rfl) (pe_call G_take (hr.mono (by omega)) (by rfl) D_take.g D_take.F.kp D_take.b .nil pass0 (pa_cons (pv 0) (pa_cons (pe_callB call_lenS (by rfl) B.len PySem.boot_len (pa_cons (pv 4) pa_nil)) pa_nil))))
      (pss_cons (ps_set (i := 6) sc_names.nd rfl (.inl rfl) (pe_lst pa_nil))
      (pss_cons (ps_for PassesOwn.never rfl (pi_range1 (by rfl) B.range (pa_cons (pv 1) pa_nil)) (pg_name (i := 7) sc_names.nd rfl (.inl rfl)) (C8.pss_cut (ps_if (PW.pt (pw_and (pt_cmpR op_lt (pv 3) pe_int (nomark _)) (pw_and1 (pt_cmpR op_lt (pv 7) pe_int (nomark _))))) (pss_one (ps_set (i := 8) sc_names.nd rfl (.inl rfl) (pe_ix ix_str pe_str (pv 7) (fun _ _ => rfl)))) (pss_one (ps_if (pt_cmpR op_eq (pv 3) pe_int (nomark _)) (pss_one (ps_set (i := 8) sc_names.nd rfl (.inl rfl) (pe_op op_addS (pe_slice sl_str (pv 4) po_none (po_some pe_int)) (pe_callTy call_strI (by rfl) B.str_ (by decide +kernel) (pa_cons (pe_call G_take (hr.mono (by omega)) (by rfl) D_take.g D_take.F.kp D_take.b .nil pass0 (pa_cons (pv 0) (pa_cons pe_int pa_nil))) pa_nil))))) (pss_one (ps_if (pt_cmpR op_eq (pv 3) pe_int (nomark _)) (pss_one (ps_set (i := 8) sc_names.nd rfl (.inl rfl) (pe_op op_addS (pe_slice sl_str (pv 4) po_none (po_some pe_int)) (pe_m1 PySem.F.slot_str_join PySem.F.type_str_join (mt_joinK (K := K)) pe_str (pe_lc (own := [("j", 9)]) (g := gName 9) (tt := tYes) (by rfl) sc_names.nd (pi_range1 (by rfl) B.range (pa_cons (pe_call G_take (hr.mono (by omega)) (by rfl) D_take.g D_take.F.kp D_take.b .nil pass0 (pa_cons (pv 0) (pa_cons pe_int pa_nil))) pa_nil)) (blkOk_by (own := [("j", 9)]) (N := ["store", "many", "taken", "kind", "stem", "at", "found", "k", "name", "j"]) (sc := defScope s_names) (by decide +kernel)) (fun _ _ _ _ _ => pg_name (i := 9) sc_names.nd rfl (Or.inl rfl)) (fun _ _ _ _ _ => pts_nil) (fun _ _ _ _ _ => (pe_call G_pick (hr.mono (by omega)) (by rfl) D_pick.g D_pick.F.kp D_pick.b .nil pass0 (pa_cons (pv 0) (pa_cons pe_str pa_nil))))))))) (pss_one (ps_if (PW.pt (pw_and (pt_cmpR op_eq (pv 3) pe_int (nomark _)) (pw_and1 (pt_cmpR op_gt (pv 5) pe_int (nomark _))))) (pss_one (ps_set (i := 8) sc_names.nd rfl (.inl rfl) (pe_op op_addS (pe_op op_addS (pe_slice sl_str (pv 4) po_none (po_some (pv 5))) (pe_call G_pick (hr.mono (by omega)) (by rfl) D_pick.g D_pick.F.kp D_pick.b .nil pass0 (pa_cons (pv 0) (pa_cons pe_str pa_nil)))) (pe_slice sl_str (pv 4) (po_some (pe_op op_add (pv 5) pe_int)) po_none)))) (pss_one (ps_if (pt_cmpR op_eq (pv 3) pe_int (nomark _)) (pss_one (ps_set (i := 8) sc_names.nd rfl (.inl rfl) (pe_op op_addS (pe_call G_pick (hr.mono (by omega)) (by rfl) D_pick.g D_pick.F.kp D_pick.b .nil pass0 (pa_cons (pv 0) (pa_cons pe_str pa_nil))) (pe_slice sl_str (pv 4) (po_some pe_int) po_none)))) (pss_one (ps_set (i := 8) sc_names.nd rfl (.inl rfl) (pe_call G_name (hr.mono (by omega)) (by rfl) D_name.g D_name.F.kp D_name.b .nil pass0 (pa_cons (pv 0) pa_nil)))))))))))))
      (pss_one (ps_expr (pe_bm PySem.F.plainAttrs_list PySem.F.slot_list_append PySem.F.type_list_append mt_append (pv 6) (pa_cons (pe_call G_unlike (hr.mono (by omega)) (by rfl) D_unlike.g D_unlike.F.kp D_unlike.b .nil pass0 (pa_cons (pv 8) (pa_cons (pe_op op_catL (pe_callTy (call_listK (K := K)) (by rfl) B.list_ (by decide +kernel) (pa_cons (pv 2) pa_nil)) (pv 6)) pa_nil))) pa_nil))))))
      (pss_one (ps_ret (pe_call G_shuffled (hr.mono (by omega)) (by rfl) D_shuffled.g D_shuffled.F.kp D_shuffled.b .nil pass0 (pa_cons (pv 0) (pa_cons (pv 6) pa_nil)))))))))), ?_⟩
    walk_at "st"
    refine ⟨a, c, _, rfl, S0, by decide, fun v H1 S1 b1 ⟨kind, e, _, _⟩ => ?_⟩
    subst e
    walk_at "st"
    refine ⟨a, c, rfl, S1, fun v H2 S2 b2 ⟨stem, e, hst⟩ => ?_⟩
    subst e
    have hsl := okd_len (.inr hst)
    walk_at "st"
    refine ⟨line_of (by rw [S_len]; omega), a, c, _, rfl, S2, by rw [S_len]; omega, fun v H3 S3 b3 ⟨at_, e, t0, t1⟩ => ?_⟩
    subst e
    rw [S_len] at t1
    walk_at "st"
    refine ⟨Nat.zero_le _, fun fo nfo => ?_⟩
    have b03 := (b1.trans b2).trans b3
    have S4 := S3.new (o := .lst []) nfo
    have hp4 : L2.upd H3 fo (.lst []) p = some (.lst (ts.map V.str)) := Keeps.new nfo _ _ (b03 p _ pa hp)
    have hf4 : L2.upd H3 fo (.lst []) fo = some (.lst []) := upd_same
    have b04 := b03.trans (Keeps.but (Keeps.new (x := .lst []) nfo))
    have nf0 : H fo = none := by
      cases e : H fo with
      | none => rfl
      | some o => have := b03 fo o (S3.ne1 nfo) e; rw [nfo] at this; cases this
    have foa := S3.ne1 nfo
    generalize L2.upd H3 fo (.lst []) = H4 at *
    walk_at "st"
    refine ⟨by omega, by omega, ?_⟩
    refine r_range (fun i σ H' => (∃ x7 x8 x9 : Option V, σ = [some (.ref a), some (.int many), some (.ref p), some (.int kind), some (.str (S stem)), some (.int at_), some (.ref fo), x7, x8, x9]) ∧ StoreAt H' a c ∧ But a H H' ∧ ∃ ws : List Str, H' fo = some (.lst (ws.map V.str)) ∧ ws.length = i ∧ NamesL ts ws)
      ⟨⟨_, _, _, rfl⟩, S4, b04, [], hf4, rfl, fun z h => (by cases h), List.nodup_nil⟩ ?_ ?_
    · rintro i σ H5 hi ⟨⟨x7, x8, x9, rfl⟩, S5, b5, ws, hw, hwl, hws⟩ N kk
      refine r_cut (fun σ H' => StoreAt H' a c ∧ But a H5 H' ∧ ∃ l, nm l ∧ ∃ x7 x9 : Option V, σ = [some (.ref a), some (.int many), some (.ref p), some (.int kind), some (.str (S stem)), some (.int at_), some (.ref fo), x7, some (.str (S l)), x9]) (fun N2 k2 => ?_) ?_
      · have put : ∀ (l : List Nat) (H' : Hp) (x7 x9 : Option V), nm l → StoreAt H' a c → But a H5 H' → N2 [some (.ref a), some (.int many), some (.ref p), some (.int kind), some (.str (S stem)), some (.int at_), some (.ref fo), x7, some (.str (S l)), x9] H' := fun l H' x7 x9 h1 h2 h3 => k2 _ _ ⟨h2, h3, l, h1, _, _, rfl⟩
        have hsz : (S stem).length ≤ sizeLine := line_of (by rw [S_len]; omega)
        have cl := fun lo hi => cut_len (S stem) lo hi
        rw [S_len] at cl
        obtain ⟨atn, rfl⟩ : ∃ n : Nat, at_ = (n : Int) := ⟨at_.toNat, by omega⟩
        have other : spNam [V.ref a] H5 (fun v H1 => N2 [some (.ref a), some (.int many), some (.ref p), some (.int kind), some (.str (S stem)), some (.int atn), some (.ref fo), some (.int (0 + (i : Int))), some v, x9] H1) E0 := ⟨a, c, rfl, S5, fun v H6 S6 b6 ⟨l, e, hl⟩ => by
          subst e
          exact put l H6 _ _ hl S6 b6⟩
        have lastA : spPick [V.ref a, V.str (Str.ofString "abcdefghijklmnopqrstuvwxyz")] H5 (fun x H1 => (S stem).length ≤ sizeLine ∧ ∃ i_1, x = V.str i_1 ∧ i_1.length + (cutS (S stem) (some 1) none).length ≤ sizeLine ∧ N2 [some (.ref a), some (.int many), some (.ref p), some (.int kind), some (.str (S stem)), some (.int atn), some (.ref fo), some (.int (0 + (i : Int))), some (.str (i_1 ++ cutS (S stem) (some 1) none)), x9] H1) E0 := by
          refine ⟨a, c, _, rfl, S5, by decide +kernel, by decide +kernel, fun v H6 S6 b6 ⟨k, hk, e⟩ => ⟨hsz, _, e, ?_⟩⟩
          have hk := (letm k).mp hk
          have ec : cutS (S stem) (some 1) none = S (stem.drop 1) := cut_suf stem 1
          rw [ec, show ({ cps := #[k] } : Str) = S [k] from rfl, S_app, S_len, S_len]
          refine ⟨line_of (by rw [List.length_drop, List.length_singleton]; omega), put _ H6 _ _ ⟨hk, ?_, fun x hx => nm_mem hst (List.mem_of_mem_drop hx)⟩ S6 b6⟩
          show (stem.drop 1).length ≤ 5
          rw [List.length_drop]
          omega
        have hsp : ∀ x ∈ stem, lod x := fun x h => nm_mem hst h
        have ids : But a H5 H5 := fun _ _ _ h => h
        have oneL : ∀ c : Nat, ({ cps := #[c] } : Str).length = 1 := fun _ => rfl
        walk_at "rt"
        refine ite2 (fun _ => ite2 (fun h26 => ⟨by rw [PySem.sizeLine_eq]; decide, ?_⟩) (fun _ => ?_)) (fun _ => ?_)
        · obtain ⟨x, hx1, hx2⟩ := atI_get (xs := (Str.ofString "abcdefghijklmnopqrstuvwxyz").cps.toList) (i := 0 + (i : Int)) (by omega) (by
            have : (Str.ofString "abcdefghijklmnopqrstuvwxyz").cps.toList.length = 26 := by decide +kernel
            omega)
          exact ⟨x, hx1, put [x] H5 _ _ (nm_one.mpr ((letm x).mp (List.mem_of_getElem? hx2))) S5 ids⟩
        all_goals
          refine ite2 (fun _ => ⟨hsz, a, c, _, rfl, S5, by decide, fun v H6 S6 b6 ⟨y, e, y0, y1⟩ => ⟨y, e, ?_⟩⟩) (fun _ => ite2 (fun _ => ⟨hsz, a, c, _, rfl, S5, by decide, fun v H6 S6 b6 ⟨y, e, y0, y1⟩ => ⟨y, e, by omega, by omega, fun Dd nD => ?_⟩⟩) (fun _ => ite2 (fun _ => ite2 (fun h0 => ⟨hsz, ?_⟩) (fun h0 => ?_)) (fun _ => ?_)))
          · obtain ⟨k, rfl⟩ : ∃ n : Nat, y = (n : Int) := ⟨y.toNat, by omega⟩
            obtain ⟨d1, d2⟩ := digs (k := k) (by omega)
            have lg : ((k : Int)).natAbs.log2 < 1920 := (show ∀ k, k < 64 → k.log2 < 1920 by decide) k (by omega)
            have ec : cutS (S stem) none (some 2) = S (stem.take 2) := cut_pre stem 2
            rw [ec]
            have el : (stem.take 2).length ≤ 2 := List.length_take_le _ _
            refine ⟨lg, line_of (by rw [S_len, len_tl]; omega), ?_⟩
            rw [show (Str.ofString (toString (k : Int))) = S (tl (Str.ofString (toString (k : Int)))) from (S_tl _).symm, S_app]
            exact put _ H6 _ _ (nm_mix hst (by decide) d2 (by omega)) S6 b6
          · refine r_lcRT (n := y.toNat) (fun i H' => StoreAt H' a c ∧ But a H5 H' ∧ ∃ cs : List Nat, cs.length = i ∧ (∀ x ∈ cs, lod x) ∧ H' Dd = some (.lst ((cs.map fun c => S [c]).map V.str))) (fun _ => rfl) ⟨S6.new nD, b6.trans (Keeps.but (Keeps.new nD)), [], rfl, fun _ h => (by cases h), upd_same⟩ ?_ ?_
            · rintro i H7 hi ⟨S7, b7, cs, hcl, hcs, hD⟩ N M kN _
              simp only [tYes, if_pos]
              walk_at "rt"
              refine ⟨a, c, _, rfl, S7, by decide +kernel, by decide +kernel, fun v H8 S8 b8 ⟨k, hk, e⟩ => ?_⟩
              subst e
              have hk : k ∈ [97, 98, 48] := by
                have : (Str.ofString "ab0").cps.toList = [97, 98, 48] := by decide +kernel
                rw [← this]; exact hk
              have hk : lod k := by
                simp only [List.mem_cons, List.not_mem_nil, or_false] at hk
                rcases hk with rfl | rfl | rfl
                · exact .inl ⟨by decide, by decide⟩
                · exact .inl ⟨by decide, by decide⟩
                · exact .inr ⟨by decide, by decide⟩
              have Da := S6.ne1 nD
              have hD8 := b8 Dd _ Da hD
              have Dc : Dd ≠ c := S6.ne2 nD
              refine kN _ H8 _ hD8 (size_ok (by rw [List.length_map, List.length_map, hcl]; omega)) ⟨S8.put Da Dc, fun b o hb e => ?_, cs ++ [k], by rw [List.length_append, hcl]; rfl, fun x hx => ?_, by rw [upd_same, List.map_append, List.map_append]; rfl⟩
              · rw [upd_ne (fun z => by
                  rw [z] at e
                  have := b6 Dd _ Da e
                  rw [nD] at this
                  cases this)]
                exact (b7.trans b8) b o hb e
              · rcases List.mem_append.mp hx with hx | hx
                · exact hcs x hx
                · rw [List.mem_singleton.mp hx]; exact hk
            · rintro H7 ⟨S7, b7, cs, hcl, hcs, hD⟩
              have ej : Txt.join (Str.ofString "") (cs.map fun c => S [c]) = S cs := by
                have e0 : (cs.map fun c => S [c]) = (cs.map fun c => [c]).map S := by rw [List.map_map]; rfl
                rw [S_emp, e0, join_S]
                rw [flat_one]
              have ec : cutS (S stem) none (some 3) = S (stem.take 3) := cut_pre stem 3
              have el : (stem.take 3).length ≤ 3 := List.length_take_le _ _
              refine ⟨cs.map fun c => S [c], sq_of hD, ?_, ?_, ?_⟩
              · have e0 : (cs.map fun c => S [c]) = (cs.map fun c => [c]).map S := by rw [List.map_map]; rfl
                rw [e0, sum_len', S_emp, S_len, List.length_nil, Nat.mul_zero, Nat.add_zero]
                have : ((cs.map fun c => [c]).flatten).length = cs.length := by rw [flat_one]
                omega
              · rw [ej, ec, S_len, S_len]
                exact line_of (by omega)
              · rw [ej, ec, S_app]
                exact put _ H7 _ _ (nm_mix hst (by decide) hcs (by omega)) S7 b7
          · refine ⟨a, c, _, rfl, S5, by decide +kernel, by decide +kernel, fun v H6 S6 b6 ⟨k, hk, e⟩ => ⟨{ cps := #[k] }, e, ?_⟩⟩
            have hk := (lodm k).mp hk
            have c1 := cl none (some (atn : Int))
            have c2 := cl (some ((atn : Int) + 1)) none
            refine ⟨line_of (by rw [oneL]; omega), hsz, line_of (by rw [app_len, oneL]; omega), ?_⟩
            have e1 : ((atn : Int) + 1) = ((atn + 1 : Nat) : Int) := by omega
            rw [e1, cut_pre, cut_suf, show ({ cps := #[k] } : Str) = S [k] from rfl, S_app, S_app, List.append_assoc]
            refine put _ H6 _ _ (nm_mix hst (by omega) (fun x hx => ?_) ?_) S6 b6
            · rcases List.mem_append.mp hx with hx | hx
              · rw [List.mem_singleton.mp hx]; exact hk
              · exact hsp x (List.mem_of_mem_drop hx)
            · rw [List.length_append, List.length_take, List.length_drop, List.length_singleton]
              omega
          · exact ite2 (fun _ => lastA) (fun _ => other)
          · exact ite2 (fun _ => lastA) (fun _ => other)
      rintro σ H6 ⟨S6, b6, l, hl, x7, x9, rfl⟩
      have hw6 := b6 fo _ foa hw
      have hp6 := (b5.trans b6) p _ pa hp
      walk_at "rt"
      refine ⟨.inl ⟨rfl, _, sq_of hw6⟩, _, .inl (sq_of hp6), fun l1 nl1 => ⟨_, upd_same, _, Keeps.new nl1 _ _ hw6, line_of (by rw [List.length_map, List.length_map]; omega), fun l2 nl2 => ?_⟩⟩
      have k2 : Keeps H6 (L2.upd (L2.upd H6 l1 (.lst (ts.map V.str))) l2 (.lst (ts.map V.str ++ ws.map V.str))) := (Keeps.new nl1).trans (Keeps.new nl2)
      have h2 : L2.upd (L2.upd H6 l1 (.lst (ts.map V.str))) l2 (.lst (ts.map V.str ++ ws.map V.str)) l2 = some (.lst ((ts ++ ws).map V.str)) := by rw [upd_same, List.map_append]
      generalize L2.upd (L2.upd H6 l1 (.lst (ts.map V.str))) l2 (.lst (ts.map V.str ++ ws.map V.str)) = H7 at *
      refine ⟨S l, l2, ts ++ ws, rfl, by rw [tl_S]; exact hl, h2, by rw [List.length_append]; omega, fun y hy hn => ?_⟩
      rw [List.mem_append, not_or] at hn
      refine ⟨_, k2 _ _ hw6, size_ok (by rw [List.length_map]; omega), kk _ _ ⟨⟨_, _, _, rfl⟩, (Keeps.store S6 k2).put foa (S0.ne2 nf0), ?_, ws ++ [y], by rw [upd_same, List.map_append]; rfl, by rw [List.length_append, hwl]; rfl, fun z hz => ?_, ?_⟩⟩
      · exact fun b o hb e => by
          rw [upd_ne (fun z => by rw [z, nf0] at e; cases e)]
          exact k2 _ _ ((b5.trans b6) b o hb e)
      · rcases List.mem_append.mp hz with hz | hz
        · exact hws.1 z hz
        · rw [List.mem_singleton.mp hz]
          exact ⟨hy, hn.1⟩
      · refine List.nodup_append.mpr ⟨hws.2, by simp, fun x hx z hz e => hn.2 ?_⟩
        rw [List.mem_singleton.mp hz] at e
        rw [← e]
        exact hx
    · rintro σ H5 ⟨⟨x7, x8, x9, rfl⟩, S5, b5, ws, hw, hwl, hws⟩
      walk_at "rt"
      refine ⟨a, c, fo, _, rfl, S5, hw, foa, by rw [List.length_map]; omega, fun r ys H6 S6 b6 nr hr' hpm => ?_⟩
      obtain ⟨zs, rfl, hz⟩ := perm_strs hpm
      refine q r zs H6 S6 (b5.trans b6) ?_ hr' (by rw [hz.length_eq, hwl]; omega) ⟨fun z h => hws.1 z (hz.mem_iff.mp h), hz.nodup_iff.mpr hws.2⟩
      cases e : H r with
      | none => rfl
      | some o => have := b5 r o (S5.ne1 nr) e; rw [nr] at this; cases this
end
end K01
namespace K01
open PySem PySem.Spec PyProof.Rows L2 TL HotExc Tw
local macro_rules | `(tactic| walk_at "rd") => `(tactic| simp only [start1, wipe, isR, isBool, isInt, isStr, isLst, isTup, tAsg, gName, gSub, tVar, tC, tOp, tUn, tTest, tIfS, tRet, tRetN, tDrop, tB, tAnd, tOr, tNot, tAndV, tOrV, tNotV, tIf, tCB, tCons, tNil, tNext, tCall, tBM, tTup, tLst, rU, rInW, rNinW, Int.reduceNeg, tG, tG2, sP, tDisp, tPairs, tCallS, tCallSD, tCallT, StX.tStar, tCallK, tCallKS, rTupOf, tDrop, rI0, rI, rEq, rNe, scal, forR_eq, forR2_eq, forS_eq, forL_eq, lcT_eq, lcRT_eq, lcS_eq, rLenX, rLenS, rListOf, tRevL, rMulS, rRepL, rCatL, rSumN, rMaxN, tBM0, rPop, tAug, ipI,  tPart, tNoPart, CwR.tReplC, rAllK, rInSg, rNinSg, sgn_inj, rAddS, rInSt, tChain, tM1, tM0, rSplitN, rJoinN, exists_eq, rIntI, rIntB, rIntS, rStrI, rAbs, rOrd, rMin, rMax, rIxL, rIxX, rSetL, rAppend, rIxS, rSlS, rSlL, tSl, List.map_cons, List.map_nil, List.replicate_succ, List.replicate_zero, List.length_cons, List.length_nil, Nat.reduceSub, Nat.reduceAdd, Nat.zero_add, Nat.sub_self, List.getElem?_cons_zero, List.getElem?_cons_succ, List.set_cons_zero, List.set_cons_succ, List.append_nil, List.nil_append, List.cons_append, Option.some.injEq, not_true_eq_false, reduceCtorEq, exists_eq_left', exists_eq_left, exists_eq', exists_and_left, exists_and_right, V.int.injEq, V.str.injEq, V.bl.injEq, V.ref.injEq, List.cons.injEq, and_true, true_and, and_assoc, decide_eq_true_eq, Bool.not_eq_true', decide_eq_false_iff_not, ite_true, ite_false, if_true, if_false, Bool.not_true, Bool.not_false, Bool.false_eq_true, eq_self_iff_true, reduceIte, ne_eq, Int.reduceEq, not_false_eq_true])
local macro_rules | `(tactic| walk_at "rt") => `(tactic| try walk_at "rd")
local macro_rules | `(tactic| walk_at "st") => `(tactic| (walk_at "rt"; refine r_seq ?_; walk_at "rt"))
local macro_rules | `(tactic| walk_at "hp") => `(tactic| first | assumption | exact upd_same | (rw [upd_ne (by assumption)]; walk_at "hp"))
local macro_rules | `(tactic| walk_at "ex1") => `(tactic| ((with_reducible refine Exists.intro ?w (And.intro ?hx ?_)); (case hx => first | exact sq_of (by walk_at "hp") | exact .inl (sq_of (by walk_at "hp")) | exact rfl | (show _ = some (HO.lst _); walk_at "hp"))))
local macro_rules | `(tactic| walk_at "ex") => `(tactic| repeat (first | walk_at "ex1" | walk_at "rd"))
abbrev s_some : Stmt := topS 50
theorem sc_some : FnScope ["store", "row", "kind", "at", "thing"] ["store", "row"] (defScope s_some) := ⟨rfl, rfl, rfl, by decide +kernel, rfl, by decide +kernel, by decide +kernel⟩
/-! ### some of a row -/
theorem cutV_sub (xs : List V) (lo hi : Option Int) : (cutV xs lo hi).Sublist xs := by
  unfold cutV
  exact (List.take_sublist _ _).trans (List.drop_sublist _ _)
theorem cutV_to (xs : List V) (k : Nat) : cutV xs none (some (k : Int)) = xs.take k := by
  by_cases h : k ≤ xs.length
  · exact cut_to h
  · unfold cutV
    rw [HT.sIx_none, HT.sIx_nat, List.drop_zero, Nat.sub_zero, Nat.min_eq_right (by omega), List.take_length, List.take_of_length_le (by omega)]
theorem cutV_from (xs : List V) (k : Nat) : cutV xs (some (k : Int)) none = xs.drop k := by
  by_cases h : k ≤ xs.length
  · exact cut_from h
  · unfold cutV
    rw [HT.sIx_none, HT.sIx_nat, Nat.min_eq_right (by omega), List.drop_length, List.drop_eq_nil_of_le (by omega), List.take_nil]
theorem skip_sub (xs : List V) (k : Nat) : (xs.take k ++ xs.drop (k + 1)).Sublist xs := by
  have h : (xs.take k ++ xs.drop (k + 1)).Sublist (xs.take k ++ xs.drop k) := (List.Sublist.refl _).append (by rw [← List.drop_drop]; exact List.drop_sublist _ _)
  rw [List.take_append_drop] at h
  exact h
theorem sum_take' {α : Type} {l : List α} {i : Nat} {x : α} (h : l[i]? = some x) : l.take (i + 1) = l.take i ++ [x] := by rw [List.take_add_one, h]; rfl
def spSome : Sp := fun vs H Q _ => ∃ (a c p : Addr) (xs : List V), vs = [.ref a, .ref p] ∧ StoreAt H a c ∧ H p = some (.lst xs) ∧ p ≠ a ∧ xs.length ≤ 1000 ∧
  ∀ q ys H', StoreAt H' a c → But a H H' → H q = none → H' q = some (.lst ys) → ys.Sublist xs → Q (.ref q) H'
section
variable {P : Program} {w : World} {K : PySem.W.Frag} {mg : Str → Option Value} {base : Heap}
theorem ok_some {f f_take f_chance : Addr} {fd fd_take fd_chance : FuncData} (B : Bi mg) (D : Dn K mg "_law_some" s_some ["store", "row"] f fd) (D_take : Dn K mg "_law_take" s_take ["store", "many"] f_take fd_take) (D_chance : Dn K mg "_law_chance" s_chance ["store", "many"] f_chance fd_chance)
    (G_take : FnOk P w K mg base CX0 2 f_take fd_take ["store", "many"] spTake) (G_chance : FnOk P w K mg base CX0 3 f_chance fd_chance ["store", "many"] spChance) : FnOk P w K mg base CX0 4 f fd ["store", "row"] spSome := by
  refine D.F.ok sc_some (fun vs H Q E h => ?_) (fun cdv A outer s H vs Q E hr h => ?_)
  · obtain ⟨a, c, p, xs, rfl, _⟩ := h
    rfl
  · obtain ⟨a, c, p, xs, rfl, S0, hp, pa, hl, q⟩ := h
    refine ⟨_, (pss_cons (ps_set (i := 2) sc_some.nd rfl (.inl rfl) (pe_call G_take (hr.mono (by omega)) (by rfl) D_take.g D_take.F.kp D_take.b .nil pass0 (pa_cons (pv 0) (pa_cons pe_int pa_nil))))
      (pss_cons (ps_set (i := 3) sc_some.nd rfl (.inl rfl) (pe_call G_take (hr.mono (by omega)) (by rfl) D_take.g D_take.F.kp D_take.b .nil pass0 (pa_cons (pv 0) (pa_cons (pe_callB (call_lenXK (K := K)) (by rfl) B.len PySem.boot_len (pa_cons (pv 1) pa_nil)) pa_nil))))
      (pss_cons (ps_if (pt_cmpR op_eq (pv 2) pe_int (nomark _)) (pss_one (ps_ret (pe_lst pa_nil))) pss_nil)
      (pss_cons (ps_if (pt_cmpR op_eq (pv 2) pe_int (nomark _)) (pss_one (ps_ret (pe_callTy (call_listK (K := K)) (by rfl) B.list_ (by decide +kernel) (pa_cons (pv 1) pa_nil)))) pss_nil)
      (pss_cons (ps_if (pt_cmpR op_eq (pv 2) pe_int (nomark _)) (pss_one (ps_ret (pe_callTy (call_listK (K := K)) (by rfl) B.list_ (by decide +kernel) (pa_cons (pe_slice (sl_listK (K := K)) (pv 1) (po_some (pv 3)) (po_some (pe_op op_add (pv 3) pe_int))) pa_nil)))) pss_nil)
      (pss_cons (ps_if (pt_cmpR op_eq (pv 2) pe_int (nomark _)) (pss_one (ps_ret (pe_op op_catL (pe_callTy (call_listK (K := K)) (by rfl) B.list_ (by decide +kernel) (pa_cons (pe_slice (sl_listK (K := K)) (pv 1) po_none (po_some (pv 3))) pa_nil)) (pe_callTy (call_listK (K := K)) (by rfl) B.list_ (by decide +kernel) (pa_cons (pe_slice (sl_listK (K := K)) (pv 1) (po_some (pe_op op_add (pv 3) pe_int)) po_none) pa_nil))))) pss_nil)
      (pss_one (ps_ret (pe_lc (own := [("thing", 4)]) (g := gName 4) (by rfl) sc_some.nd (pi_listK (K := K) (pv 1)) (blkOk_by (own := [("thing", 4)]) (N := ["store", "row", "kind", "at", "thing"]) (sc := defScope s_some) (by decide +kernel)) (fun _ _ _ _ _ => pg_name (i := 4) sc_some.nd rfl (Or.inl rfl)) (fun _ _ _ _ _ => (pts_one (pt_val (pe_call G_chance (hr.mono (by omega)) (by rfl) D_chance.g D_chance.F.kp D_chance.b .nil pass0 (pa_cons (pv 0) (pa_cons pe_int pa_nil)))))) (fun _ _ _ _ _ => (pv 4))))))))))), ?_⟩
    walk_at "st"
    refine ⟨a, c, _, rfl, S0, by decide, fun v H1 S1 b1 ⟨kind, e, _, _⟩ => ?_⟩
    subst e
    have hp1 := b1 p _ pa hp
    walk_at "st"
    refine ⟨_, .inl (sq_of hp1), a, c, _, rfl, S1, by omega, fun v H2 S2 b2 ⟨at_, e, t0, t1⟩ => ?_⟩
    subst e
    obtain ⟨k, rfl⟩ : ∃ n : Nat, at_ = (n : Int) := ⟨at_.toNat, by omega⟩
    have hp2 := b2 p _ pa hp1
    have b02 := b1.trans b2
    have free : ∀ (H' : Hp) r, Keeps H2 H' → H' r = none → H r = none := fun H' r k h => by
      have h2 := k.free h
      cases e : H r with
      | none => rfl
      | some o => have := b02 r o (S2.ne1 h2) e; rw [h2] at this; cases this
    have fin : ∀ (H' : Hp) r ys, Keeps H2 H' → H' r = none → ys.Sublist xs → Q (.ref r) (L2.upd H' r (.lst ys)) := fun H' r ys k h hs =>
      q r ys _ ((Keeps.store S2 k).new h) (b02.trans (Keeps.but (k.put (k.free h)))) (free H' r k h) upd_same hs
    walk_at "st"
    refine ite2 (fun _ => ⟨Nat.zero_le _, fun r nr => fin H2 r [] (Keeps.refl _) nr (List.nil_sublist _)⟩) (fun _ => ?_)
    walk_at "st"
    refine ite2 (fun _ => ⟨_, .inl (sq_of hp2), fun r nr => fin H2 r xs (Keeps.refl _) nr (List.Sublist.refl _)⟩) (fun _ => ?_)
    walk_at "st"
    refine ite2 (fun _ => ?_) (fun _ => ?_)
    · refine ⟨_, sq_of hp2, fun r nr => ⟨_, .inl (sq_of upd_same), fun r2 nr2 => fin _ r2 _ (Keeps.new nr) nr2 (cutV_sub _ _ _)⟩⟩
    walk_at "st"
    refine ite2 (fun _ => ?_) (fun _ => ?_)
    · refine ⟨xs, sq_of hp2, fun r1 n1 => ?_⟩
      rw [cutV_to]
      have k1 : Keeps H2 (L2.upd H2 r1 (.lst (xs.take k))) := Keeps.new n1
      have h3 : L2.upd H2 r1 (.lst (xs.take k)) r1 = some (.lst (xs.take k)) := upd_same
      generalize L2.upd H2 r1 (.lst (xs.take k)) = H3 at *
      refine ⟨_, .inl (sq_of h3), fun r2 n2 => ?_⟩
      have k2 : Keeps H3 (L2.upd H3 r2 (.lst (xs.take k))) := Keeps.new n2
      have h4 : L2.upd H3 r2 (.lst (xs.take k)) r2 = some (.lst (xs.take k)) := upd_same
      generalize L2.upd H3 r2 (.lst (xs.take k)) = H4 at *
      have k12 := k1.trans k2
      refine ⟨xs, sq_of (k12 _ _ hp2), fun r3 n3 => ?_⟩
      rw [show ((k : Int) + 1) = ((k + 1 : Nat) : Int) by omega, cutV_from]
      have k3 : Keeps H4 (L2.upd H4 r3 (.lst (xs.drop (k + 1)))) := Keeps.new n3
      have h5 : L2.upd H4 r3 (.lst (xs.drop (k + 1))) r3 = some (.lst (xs.drop (k + 1))) := upd_same
      generalize L2.upd H4 r3 (.lst (xs.drop (k + 1))) = H5 at *
      refine ⟨_, .inl (sq_of h5), fun r4 n4 => ?_⟩
      have k4 : Keeps H5 (L2.upd H5 r4 (.lst (xs.drop (k + 1)))) := Keeps.new n4
      have h6 : L2.upd H5 r4 (.lst (xs.drop (k + 1))) r4 = some (.lst (xs.drop (k + 1))) := upd_same
      generalize L2.upd H5 r4 (.lst (xs.drop (k + 1))) = H6 at *
      refine ⟨_, k4 _ _ (k3 _ _ h4), _, h6, line_of (by rw [List.length_take, List.length_drop]; omega), fun r5 n5 => fin _ r5 _ ((k12.trans k3).trans k4) n5 (skip_sub xs k)⟩
    walk_at "rt"
    refine ⟨⟨_, sq_of hp2⟩, fun r nr => ?_⟩
    have nr0 := free H2 r (Keeps.refl _) nr
    have ra := S2.ne1 nr
    have rc := S2.ne2 nr
    have rp : p ≠ r := ne_of_none hp2 nr
    refine r_lcT xs (fun i H' => StoreAt H' a c ∧ But a H H' ∧ H' p = some (.lst xs) ∧ ∃ ys, H' r = some (.lst ys) ∧ ys.Sublist (xs.take i)) (fun _ => rfl) ⟨S2.new nr, b02.trans (Keeps.but (Keeps.new nr)), Keeps.new nr _ _ hp2, [], upd_same, List.nil_sublist _⟩ (fun i H' _ h => sq_of h.2.2.1) ?_ ?_
    · rintro i x H3 hx ⟨S3, b3, hp3, ys, hr, hs⟩ N M kN kM
      have hi := lt_of_get hx
      walk_at "rt"
      refine ⟨a, c, _, rfl, S3, by decide, fun v H4 S4 b4 ⟨bb, e⟩ => ⟨bb, e, ?_⟩⟩
      have hr4 := b4 r _ ra hr
      have hp4 := b4 p _ pa hp3
      have yl : ys.length ≤ 1000 := by
        have := hs.length_le
        rw [List.length_take] at this
        omega
      cases bb with
      | true =>
        simp only [if_true]
        walk_at "rt"
        refine kN x H4 ys hr4 (size_ok (by omega)) ⟨S4.put ra rc, fun b o hb e => ?_, (upd_ne rp).trans hp4, ys ++ [x], upd_same, ?_⟩
        · rw [upd_ne (fun z => by rw [z, nr0] at e; cases e)]
          exact (b3.trans b4) b o hb e
        · rw [sum_take' hx]
          exact hs.append (List.Sublist.refl _)
      | false =>
        simp only [Bool.false_eq_true, if_false]
        exact kM H4 ⟨S4, b3.trans b4, hp4, ys, hr4, hs.trans (by rw [sum_take' hx]; exact List.sublist_append_left _ _)⟩
    · rintro H3 ⟨S3, b3, hp3, ys, hr, hs⟩
      rw [List.take_length] at hs
      exact q r ys H3 S3 b3 nr0 hr hs
end
end K01
namespace K01
open PySem PySem.Spec PyProof.Rows L2 TL HotExc Tw
/-! ### the pairs of a shape: which step of the loop makes a pair -/
/-- the pair x, y may be made at step k -/
def Made (kind cut : Int) (k x y : Int) : Prop := 0 ≤ x ∧ x < y ∧ (kind = 1 → x + 1 = y) ∧ (kind ≠ 10 → y = k) ∧ (kind = 10 → ∃ t, (t = 0 ∧ k % 2 = 0 ∨ t = cut ∧ k % 2 = 1) ∧ t ≠ k ∧ (x = t ∧ y = k ∨ x = k ∧ y = t))
theorem Made.one {kind cut k l x y : Int} (hc : 0 ≤ cut) (hk : 1 ≤ k) (hl : 1 ≤ l) (hkc : kind = 10 → k ≠ cut) (hlc : kind = 10 → l ≠ cut) (h : Made kind cut k x y) (g : Made kind cut l x y) : k = l := by
  obtain ⟨_, _, _, h4, h5⟩ := h
  obtain ⟨_, _, _, g4, g5⟩ := g
  by_cases e : kind = 10
  · obtain ⟨t, ht, htk, h6⟩ := h5 e
    obtain ⟨u, hu, huk, g6⟩ := g5 e
    have := hkc e
    have := hlc e
    omega
  · rw [← h4 e, ← g4 e]
/-- the pairs that stand in a list -/
def PrsAt (H : Hp) (a : Addr) (ps : List (Int × Int)) (vs : List V) : Prop := vs.length = ps.length ∧ ∀ (i : Nat) p v, ps[i]? = some p → vs[i]? = some v → ∃ t, v = .ref t ∧ t ≠ a ∧ H t = some (.tup [.int p.1, .int p.2])
theorem PrsAt.but {H H' : Hp} {a : Addr} {ps : List (Int × Int)} {vs : List V} (h : PrsAt H a ps vs) (k : But a H H') : PrsAt H' a ps vs := ⟨h.1, fun i p v e1 e2 => by
  obtain ⟨t, e, ht, hx⟩ := h.2 i p v e1 e2
  exact ⟨t, e, ht, k t _ ht hx⟩⟩
theorem PrsAt.put {H : Hp} {a q : Addr} {o : HO} {ys : List V} {ps : List (Int × Int)} {vs : List V} (h : PrsAt H a ps vs) (hq : H q = some (.lst ys) ∨ H q = none) : PrsAt (L2.upd H q o) a ps vs := ⟨h.1, fun i p v e1 e2 => by
  obtain ⟨t, e, ht, hx⟩ := h.2 i p v e1 e2
  refine ⟨t, e, ht, (upd_ne fun z => ?_).trans hx⟩
  rw [z] at hx
  rcases hq with hq | hq
  · rw [hq] at hx; cases hx
  · rw [hq] at hx; cases hx⟩
theorem PrsAt.snoc {H : Hp} {a t : Addr} {ps : List (Int × Int)} {vs : List V} {x y : Int} (h : PrsAt H a ps vs) (ht : t ≠ a) (hx : H t = some (.tup [.int x, .int y])) : PrsAt H a (ps ++ [(x, y)]) (vs ++ [.ref t]) := by
  refine ⟨by rw [List.length_append, List.length_append, h.1]; rfl, fun i p v e1 e2 => ?_⟩
  by_cases hi : i < ps.length
  · rw [List.getElem?_append_left hi] at e1
    rw [List.getElem?_append_left (by rw [h.1]; exact hi)] at e2
    exact h.2 i p v e1 e2
  · have hl := lt_of_get e1
    rw [List.length_append, List.length_singleton] at hl
    have : i = ps.length := by omega
    subst this
    rw [List.getElem?_append_right (Nat.le_refl _), Nat.sub_self] at e1
    rw [List.getElem?_append_right (by rw [h.1]; exact Nat.le_refl _), h.1, Nat.sub_self] at e2
    cases e1
    cases e2
    exact ⟨t, rfl, ht, hx⟩
/-! ### sorted of texts -/
def rSortedSN (K : PySem.W.Frag) (xs : List V) (H : Hp) (Q : VK) : Prop := ∃ a, xs = [V.ref a] ∧ ∃ ws : List Str, SqL K H a (ws.map V.str) ∧ ws.length < 64 ∧ ∀ (ys : List Str) (p : Addr), ys.Perm ws → sortedS ys = true → H p = none → Q (.ref p) (L2.upd H p (.lst (ys.map V.str)))
theorem call_sortedSK {X : Cx} {K : PySem.W.Frag} (h : X.K = K := by rfl) : CallR X (.builtin "sorted") (rSortedSN K) := h ▸ callR_mono cr_sortedS fun _ _ _ ⟨a, e, ws, h1, h2, q⟩ => ⟨a, ws, e, h1, h2, q⟩
end K01
namespace K01
open PySem PySem.Spec PyProof.Rows L2 TL HotExc Tw
local macro_rules | `(tactic| walk_at "rd") => `(tactic| simp only [start1, wipe, isR, isBool, isInt, isStr, isLst, isTup, tAsg, gName, gSub, tVar, tC, tOp, tUn, tTest, tIfS, tRet, tRetN, tDrop, tB, tAnd, tOr, tNot, tAndV, tOrV, tNotV, tIf, tCB, tCons, tNil, tNext, tCall, tBM, tTup, tLst, rU, rInW, rNinW, Int.reduceNeg, tG, tG2, sP, tDisp, tPairs, tCallS, tCallSD, tCallT, StX.tStar, tCallK, tCallKS, rTupOf, tDrop, rI0, rI, rEq, rNe, scal, forR_eq, forR2_eq, forS_eq, forL_eq, lcT_eq, lcRT_eq, lcS_eq, rLenX, rLenS, rListOf, tRevL, rMulS, rRepL, rCatL, rSumN, rMaxN, tBM0, rPop, tAug, ipI,  tPart, tNoPart, CwR.tReplC, rAllK, rInSg, rNinSg, sgn_inj, rAddS, rInSt, tChain, tM1, tM0, rSplitN, rJoinN, exists_eq, rIntI, rIntB, rIntS, rStrI, rAbs, rOrd, rMin, rMax, rIxL, rIxX, rSetL, rAppend, rIxS, rSlS, rSlL, tSl, List.map_cons, List.map_nil, List.replicate_succ, List.replicate_zero, List.length_cons, List.length_nil, Nat.reduceSub, Nat.reduceAdd, Nat.zero_add, Nat.sub_self, List.getElem?_cons_zero, List.getElem?_cons_succ, List.set_cons_zero, List.set_cons_succ, List.append_nil, List.nil_append, List.cons_append, Option.some.injEq, not_true_eq_false, reduceCtorEq, exists_eq_left', exists_eq_left, exists_eq', exists_and_left, exists_and_right, V.int.injEq, V.str.injEq, V.bl.injEq, V.ref.injEq, List.cons.injEq, and_true, true_and, and_assoc, decide_eq_true_eq, Bool.not_eq_true', decide_eq_false_iff_not, ite_true, ite_false, if_true, if_false, Bool.not_true, Bool.not_false, Bool.false_eq_true, eq_self_iff_true, reduceIte, ne_eq, Int.reduceEq, not_false_eq_true])
local macro_rules | `(tactic| walk_at "rt") => `(tactic| try walk_at "rd")
local macro_rules | `(tactic| walk_at "st") => `(tactic| (walk_at "rt"; refine r_seq ?_; walk_at "rt"))
local macro_rules | `(tactic| walk_at "hp") => `(tactic| first | assumption | exact upd_same | (rw [upd_ne (by assumption)]; walk_at "hp"))
local macro_rules | `(tactic| walk_at "ex1") => `(tactic| ((with_reducible refine Exists.intro ?w (And.intro ?hx ?_)); (case hx => first | exact sq_of (by walk_at "hp") | exact .inl (sq_of (by walk_at "hp")) | exact rfl | (show _ = some (HO.lst _); walk_at "hp"))))
local macro_rules | `(tactic| walk_at "ex") => `(tactic| repeat (first | walk_at "ex1" | walk_at "rd"))
abbrev s_shape : Stmt := topS 59
theorem sc_shape : FnScope ["store", "many", "bound", "kind", "wide", "cut", "pairs", "k", "j"] ["store", "many", "bound"] (defScope s_shape) := ⟨rfl, rfl, rfl, by decide +kernel, rfl, by decide +kernel, by decide +kernel⟩
/-- pairs of numbers below many, all unlike, at most so many -/
def PrsL (many : Int) (ps : List (Int × Int)) : Prop := ps.Nodup ∧ ∀ p ∈ ps, 0 ≤ p.1 ∧ p.1 < p.2 ∧ p.2 < many
def spShape : Sp := fun vs H Q _ => ∃ (a c : Addr) (many bound : Int), vs = [.ref a, .int many, .int bound] ∧ StoreAt H a c ∧ 1 ≤ many ∧ many ≤ 26 ∧ 0 ≤ bound ∧ bound ≤ 100 ∧
  ∀ q ps vs H', StoreAt H' a c → But a H H' → H q = none → H' q = some (.lst vs) → PrsAt H' a ps vs → PrsL many ps → (ps.length : Int) ≤ bound → Q (.ref q) H'
/-- the pairs that stand after some steps of the loop -/
structure Shp (H0 H : Hp) (a c : Addr) (many kind cut : Int) (pl : Addr) (ps : List (Int × Int)) (vs : List V) (k : Int) (n : Nat) : Prop where
  S : StoreAt H a c
  bt : But a H0 H
  new : H0 pl = none
  pa : pl ≠ a
  hp : H pl = some (.lst vs)
  at' : PrsAt H a ps vs
  nd : ps.Nodup
  made : ∀ p ∈ ps, ∃ l, 1 ≤ l ∧ l < k ∧ (kind = 10 → l ≠ cut) ∧ Made kind cut l p.1 p.2 ∧ p.2 < many
  len : ps.length ≤ n
theorem Shp.to {H0 H H' : Hp} {a c : Addr} {many kind cut : Int} {pl : Addr} {ps : List (Int × Int)} {vs : List V} {k k' : Int} {n n' : Nat} (R : Shp H0 H a c many kind cut pl ps vs k n) (S : StoreAt H' a c) (b : But a H H') (hk : k ≤ k') (hn : n ≤ n') : Shp H0 H' a c many kind cut pl ps vs k' n' :=
  ⟨S, R.bt.trans b, R.new, R.pa, b _ _ R.pa R.hp, R.at'.but b, R.nd, fun p hp => by
    obtain ⟨l, h1, h2, h3⟩ := R.made p hp
    exact ⟨l, h1, by omega, h3⟩, Nat.le_trans R.len hn⟩
/-- one pair more -/
theorem Shp.add {H0 H : Hp} {a c : Addr} {many kind cut : Int} {pl : Addr} {ps : List (Int × Int)} {vs : List V} {k : Int} {n : Nat} (R : Shp H0 H a c many kind cut pl ps vs k n) (hne : pl ≠ c) {t : Addr} {x y : Int} (ht : H t = none) (hc : 0 ≤ cut) (hk : 1 ≤ k) (hkc : kind = 10 → k ≠ cut) (hm : Made kind cut k x y) (hy : y < many) :
    Shp H0 (L2.upd (L2.upd H t (.tup [.int x, .int y])) pl (.lst (vs ++ [.ref t]))) a c many kind cut pl (ps ++ [(x, y)]) (vs ++ [.ref t]) (k + 1) (n + 1) := by
  have tp : t ≠ pl := fun z => by have := R.hp; rw [← z, ht] at this; cases this
  have ta : t ≠ a := R.S.ne1 ht
  refine ⟨(R.S.new ht).put R.pa hne, fun b o hb e => ?_, R.new, R.pa, upd_same, ?_, ?_, fun p hp => ?_, ?_⟩
  · rw [upd_ne (fun z => by rw [z, R.new] at e; cases e)]
    exact Keeps.new ht _ _ (R.bt b o hb e)
  · exact PrsAt.put (((R.at'.put (ys := []) (.inr ht))).snoc ta upd_same) (.inl ((upd_ne tp.symm).trans R.hp))
  · refine List.nodup_append.mpr ⟨R.nd, by simp, fun p hp q hq z => ?_⟩
    rw [List.mem_singleton.mp hq] at z
    obtain ⟨l, h1, h2, h3, h4, _⟩ := R.made p hp
    rw [z] at h4
    have := Made.one hc h1 hk h3 hkc h4 hm
    omega
  · rcases List.mem_append.mp hp with hp | hp
    · obtain ⟨l, h1, h2, h3⟩ := R.made p hp
      exact ⟨l, h1, by omega, h3⟩
    · rw [List.mem_singleton.mp hp]
      exact ⟨k, hk, by omega, hkc, hm, hy⟩
  · rw [List.length_append]
    exact Nat.succ_le_succ R.len
/-- one pair more at any step, when it is new -/
theorem Shp.push {H0 H : Hp} {a c : Addr} {many kind cut : Int} {pl : Addr} {ps : List (Int × Int)} {vs : List V} {k l : Int} {n : Nat} (R : Shp H0 H a c many kind cut pl ps vs k n) (hne : pl ≠ c) {t : Addr} {x y : Int} (ht : H t = none) (nin : (x, y) ∉ ps) (hl : 1 ≤ l) (hlk : l < k) (hkc : kind = 10 → l ≠ cut) (hm : Made kind cut l x y) (hy : y < many) :
    Shp H0 (L2.upd (L2.upd H t (.tup [.int x, .int y])) pl (.lst (vs ++ [.ref t]))) a c many kind cut pl (ps ++ [(x, y)]) (vs ++ [.ref t]) k (n + 1) := by
  have ta : t ≠ a := R.S.ne1 ht
  refine ⟨(R.S.new ht).put R.pa hne, fun b o hb e => ?_, R.new, R.pa, upd_same, ?_, List.nodup_append.mpr ⟨R.nd, by simp, fun p hp q hq z => ?_⟩, fun p hp => ?_, ?_⟩
  · rw [upd_ne (fun z => by rw [z, R.new] at e; cases e)]
    exact Keeps.new ht _ _ (R.bt b o hb e)
  · exact PrsAt.put (((R.at'.put (ys := []) (.inr ht))).snoc ta upd_same) (.inl ((upd_ne (fun z => by have := R.hp; rw [z, ht] at this; cases this)).trans R.hp))
  · rw [List.mem_singleton.mp hq] at z
    exact nin (z ▸ hp)
  · rcases List.mem_append.mp hp with hp | hp
    · exact R.made p hp
    · rw [List.mem_singleton.mp hp]
      exact ⟨l, hl, hlk, hkc, hm, hy⟩
  · rw [List.length_append]
    exact Nat.succ_le_succ R.len
theorem PrsAt.app {H : Hp} {a : Addr} {ps qs : List (Int × Int)} {vs us : List V} (h : PrsAt H a ps vs) (g : PrsAt H a qs us) : PrsAt H a (ps ++ qs) (vs ++ us) := by
  refine ⟨by rw [List.length_append, List.length_append, h.1, g.1], fun i p v e1 e2 => ?_⟩
  by_cases hi : i < ps.length
  · rw [List.getElem?_append_left hi] at e1
    rw [List.getElem?_append_left (by rw [h.1]; exact hi)] at e2
    exact h.2 i p v e1 e2
  · rw [List.getElem?_append_right (by omega)] at e1
    rw [List.getElem?_append_right (by rw [h.1]; omega), h.1] at e2
    exact g.2 _ p v e1 e2
theorem PrsAt.take {H : Hp} {a : Addr} {ps : List (Int × Int)} {vs : List V} (h : PrsAt H a ps vs) (k : Nat) : PrsAt H a (ps.take k) (vs.take k) := by
  refine ⟨by rw [List.length_take, List.length_take, h.1], fun i p v e1 e2 => ?_⟩
  rw [List.getElem?_take] at e1 e2
  split at e1
  · rename_i hi
    rw [if_pos hi] at e2
    exact h.2 i p v e1 e2
  · cases e1
theorem PrsAt.cons {H : Hp} {a : Addr} {ps : List (Int × Int)} {v : V} {vs : List V} (h : PrsAt H a ps (v :: vs)) : ∃ p qs, ps = p :: qs ∧ (∃ t, v = .ref t ∧ t ≠ a ∧ H t = some (.tup [.int p.1, .int p.2])) ∧ PrsAt H a qs vs := by
  cases ps with
  | nil => exact absurd h.1 (by simp)
  | cons p qs => exact ⟨p, qs, rfl, h.2 0 p v rfl rfl, by have := h.1; simp at this; exact this, fun i x y e1 e2 => h.2 (i + 1) x y e1 e2⟩
theorem PrsAt.mk {H : Hp} {a : Addr} {p : Int × Int} {ps : List (Int × Int)} {v : V} {vs : List V} (h1 : ∃ t, v = .ref t ∧ t ≠ a ∧ H t = some (.tup [.int p.1, .int p.2])) (h : PrsAt H a ps vs) : PrsAt H a (p :: ps) (v :: vs) := by
  refine ⟨by rw [List.length_cons, List.length_cons, h.1], fun i x y e1 e2 => ?_⟩
  cases i with
  | zero => cases e1; cases e2; exact h1
  | succ i => exact h.2 i x y e1 e2
theorem PrsAt.perm' {H : Hp} {a : Addr} {vs ys : List V} (h : vs.Perm ys) : ∀ {ps : List (Int × Int)}, PrsAt H a ps vs → ∃ qs, qs.Perm ps ∧ PrsAt H a qs ys := by
  induction h with
  | nil => exact fun {ps} h => ⟨ps, List.Perm.refl _, h⟩
  | cons x _ ih =>
    intro ps h
    obtain ⟨p, qs, rfl, h1, h2⟩ := h.cons
    obtain ⟨rs, h3, h4⟩ := ih h2
    exact ⟨p :: rs, h3.cons p, PrsAt.mk h1 h4⟩
  | swap x y l =>
    intro ps h
    obtain ⟨p, qs, rfl, h1, h2⟩ := h.cons
    obtain ⟨p2, qs2, rfl, h3, h4⟩ := h2.cons
    exact ⟨p2 :: p :: qs2, List.Perm.swap _ _ _, PrsAt.mk h3 (PrsAt.mk h1 h4)⟩
  | trans _ _ ih1 ih2 =>
    intro ps h
    obtain ⟨q1, h1, h2⟩ := ih1 h
    obtain ⟨q2, h3, h4⟩ := ih2 h2
    exact ⟨q2, h3.trans h1, h4⟩
theorem PrsAt.perm {H : Hp} {a : Addr} {vs ys : List V} {ps : List (Int × Int)} (h : PrsAt H a ps vs) (p : ys.Perm vs) : ∃ qs, qs.Perm ps ∧ PrsAt H a qs ys := PrsAt.perm' p.symm h
/-- a row of pairs with one second more -/
theorem Shp.row {H0 H H' : Hp} {a c : Addr} {many kind cut : Int} {pl q : Addr} {ps qs : List (Int × Int)} {vs us : List V} {k : Int} {n : Nat} (R : Shp H0 H a c many kind cut pl ps vs k n) (hk : 1 ≤ k) (hkd : kind ≠ 10) (hk1 : kind ≠ 1) (hkm : k < many) (S : StoreAt H' a c) (b : But a H H') (nq : H' q = none) (g : PrsAt H' a qs us)
    (hq : ∀ p ∈ qs, 0 ≤ p.1 ∧ p.1 < k ∧ p.2 = k) (qn : qs.Nodup) (ql : qs.length ≤ 26) : Shp H0 (L2.upd H' q (.lst (vs ++ us))) a c many kind cut q (ps ++ qs) (vs ++ us) (k + 1) (n + 26) := by
  have hnq : H0 q = none := by
    cases e : H0 q with
    | none => rfl
    | some o => have := (R.bt.trans b) q o (S.ne1 nq) e; rw [nq] at this; cases this
  refine ⟨S.new nq, (R.bt.trans b).trans (Keeps.but (Keeps.new nq)), hnq, S.ne1 nq, upd_same, ((R.at'.but b).app g).put (ys := []) (.inr nq), List.nodup_append.mpr ⟨R.nd, qn, fun x hx y hy z => ?_⟩, fun p hp => ?_, ?_⟩
  · obtain ⟨l, _, h2, _, h4, _⟩ := R.made x hx
    have e1 := h4.2.2.2.1 hkd
    have e2 := (hq y hy).2.2
    rw [z] at e1
    omega
  · rcases List.mem_append.mp hp with hp | hp
    · obtain ⟨l, h1, h2, h3⟩ := R.made p hp
      exact ⟨l, h1, by omega, h3⟩
    · obtain ⟨h1, h2, h3⟩ := hq p hp
      exact ⟨k, hk, by omega, fun z => absurd z hkd, ⟨h1, by omega, fun z => absurd z hk1, fun _ => h3, fun z => absurd z hkd⟩, by omega⟩
  · rw [List.length_append]
    have := R.len
    omega
section
variable {P : Program} {w : World} {K : PySem.W.Frag} {mg : Str → Option Value} {base : Heap}
theorem ok_shape {f f_take f_chance f_shuffled : Addr} {fd fd_take fd_chance fd_shuffled : FuncData} (B : Bi mg) (D : Dn K mg "_law_shape" s_shape ["store", "many", "bound"] f fd) (D_take : Dn K mg "_law_take" s_take ["store", "many"] f_take fd_take) (D_chance : Dn K mg "_law_chance" s_chance ["store", "many"] f_chance fd_chance) (D_shuffled : Dn K mg "_law_shuffled" s_shuffled ["store", "row"] f_shuffled fd_shuffled)
    (G_take : FnOk P w K mg base CX0 2 f_take fd_take ["store", "many"] spTake) (G_chance : FnOk P w K mg base CX0 3 f_chance fd_chance ["store", "many"] spChance) (G_shuffled : FnOk P w K mg base CX0 3 f_shuffled fd_shuffled ["store", "row"] (spShuf K)) : FnOk P w K mg base CX0 4 f fd ["store", "many", "bound"] spShape := by
  refine D.F.ok sc_shape (fun vs H Q E h => ?_) (fun cdv A outer s H vs Q E hr h => ?_)
  · obtain ⟨a, c, many, bound, rfl, _⟩ := h
    rfl
  · obtain ⟨a, c, many, bound, rfl, S0, hm1, hm2, hb1, hb2, q⟩ := h
    refine ⟨_, (pss_cons (ps_set (i := 3) sc_shape.nd rfl (.inl rfl) (pe_call G_take (hr.mono (by omega)) (by rfl) D_take.g D_take.F.kp D_take.b .nil pass0 (pa_cons (pv 0) (pa_cons pe_int pa_nil))))
      (C8.pss_cut (ps_if (PW.pt (pw_and (pt_cmpR op_eq (pv 3) pe_int (nomark _)) (pw_and1 (pt_val (pe_call G_chance (hr.mono (by omega)) (by rfl) D_chance.g D_chance.F.kp D_chance.b .nil pass0 (pa_cons (pv 0) (pa_cons pe_int pa_nil))))))) (pss_one (ps_set (i := 3) sc_shape.nd rfl (.inl rfl) pe_int)) pss_nil)
      (pss_cons (ps_set (i := 4) sc_shape.nd rfl (.inl rfl) (pe_op op_add pe_int (pe_call G_take (hr.mono (by omega)) (by rfl) D_take.g D_take.F.kp D_take.b .nil pass0 (pa_cons (pv 0) (pa_cons pe_int pa_nil)))))
      (pss_cons (ps_set (i := 5) sc_shape.nd rfl (.inl rfl) (pe_call G_take (hr.mono (by omega)) (by rfl) D_take.g D_take.F.kp D_take.b .nil pass0 (pa_cons (pv 0) (pa_cons (pv 1) pa_nil))))
      (pss_cons (ps_set (i := 6) sc_shape.nd rfl (.inl rfl) (pe_lst pa_nil))
      (pss_cons (ps_for PassesOwn.never rfl (pi_range2 (by rfl) B.range (pa_cons pe_int (pa_cons (pv 1) pa_nil))) (pg_name (i := 7) sc_shape.nd rfl (.inr rfl)) (pss_one (ps_if (PW.pt (pw_or (pt_cmpR op_eq (pv 3) pe_int (nomark _)) (pw_or (pt_cmpR op_eq (pv 3) pe_int (nomark _)) (pw_or1 (PW.pt (pw_and (pt_cmpR op_eq (pv 3) pe_int (nomark _)) (pw_and1 (pt_cmpR op_ne (pv 7) (pv 5) (nomark _))))))))) (pss_one (ps_expr (pe_bm PySem.F.plainAttrs_list PySem.F.slot_list_append PySem.F.type_list_append mt_append (pv 6) (pa_cons (pe_tup (pa_cons (pe_op op_sub (pv 7) pe_int) (pa_cons (pv 7) pa_nil))) pa_nil)))) (pss_one (ps_if (PW.pt (pw_or (pt_cmpR op_eq (pv 3) pe_int (nomark _)) (pw_or1 (PW.pt (pw_and (pt_cmpR op_eq (pv 3) pe_int (nomark _)) (pw_and1 (PW.pt (pw_or (pt_cmpR op_eq (pe_op op_modN (pv 7) pe_int) pe_int (nomark _)) (pw_or1 (pt_cmpR op_eq (pv 7) pe_int (nomark _))))))))))) (pss_one (ps_expr (pe_bm PySem.F.plainAttrs_list PySem.F.slot_list_append PySem.F.type_list_append mt_append (pv 6) (pa_cons (pe_tup (pa_cons pe_int (pa_cons (pv 7) pa_nil))) pa_nil)))) (pss_one (ps_if (pt_cmpR op_eq (pv 3) pe_int (nomark _)) (C8.pss_cut (ps_if (pt_cmpR op_gt (pe_op op_modN (pv 7) (pv 4)) pe_int (nomark _)) (pss_one (ps_expr (pe_bm PySem.F.plainAttrs_list PySem.F.slot_list_append PySem.F.type_list_append mt_append (pv 6) (pa_cons (pe_tup (pa_cons (pe_op op_sub (pv 7) pe_int) (pa_cons (pv 7) pa_nil))) pa_nil)))) pss_nil)
      (pss_one (ps_if (pt_cmpR op_ge (pv 7) (pv 4) (nomark _)) (pss_one (ps_expr (pe_bm PySem.F.plainAttrs_list PySem.F.slot_list_append PySem.F.type_list_append mt_append (pv 6) (pa_cons (pe_tup (pa_cons (pe_op op_sub (pv 7) (pv 4)) (pa_cons (pv 7) pa_nil))) pa_nil)))) pss_nil))) (pss_one (ps_if (pt_cmpR op_eq (pv 3) pe_int (nomark _)) (pss_one (ps_expr (pe_bm PySem.F.plainAttrs_list PySem.F.slot_list_append PySem.F.type_list_append mt_append (pv 6) (pa_cons (pe_tup (pa_cons (pe_call G_take (hr.mono (by omega)) (by rfl) D_take.g D_take.F.kp D_take.b .nil pass0 (pa_cons (pv 0) (pa_cons (pv 7) pa_nil))) (pa_cons (pv 7) pa_nil))) pa_nil)))) (pss_one (ps_if (pt_cmpR op_eq (pv 3) pe_int (nomark _)) (pss_one (ps_set (i := 6) sc_shape.nd rfl (.inl rfl) (pe_op op_catL (pv 6) (pe_lc (own := [("j", 8)]) (g := gName 8) (by rfl) sc_shape.nd (pi_range1 (by rfl) B.range (pa_cons (pv 7) pa_nil)) (blkOk_by (own := [("j", 8)]) (N := ["store", "many", "bound", "kind", "wide", "cut", "pairs", "k", "j"]) (sc := defScope s_shape) (by decide +kernel)) (fun _ _ _ _ _ => pg_name (i := 8) sc_shape.nd rfl (Or.inl rfl)) (fun _ _ _ _ _ => (pts_one (pt_val (pe_call G_chance (hr.mono (by omega)) (by rfl) D_chance.g D_chance.F.kp D_chance.b .nil pass0 (pa_cons (pv 0) (pa_cons pe_int pa_nil)))))) (fun _ _ _ _ _ => (pe_tup (pa_cons (pv 8) (pa_cons (pv 7) pa_nil)))))))) (pss_one (ps_if (pt_cmpR op_eq (pv 3) pe_int (nomark _)) (pss_one (ps_set (i := 6) sc_shape.nd rfl (.inl rfl) (pe_op op_catL (pv 6) (pe_lc (own := [("j", 8)]) (g := gName 8) (tt := tYes) (by rfl) sc_shape.nd (pi_range1 (by rfl) B.range (pa_cons (pv 7) pa_nil)) (blkOk_by (own := [("j", 8)]) (N := ["store", "many", "bound", "kind", "wide", "cut", "pairs", "k", "j"]) (sc := defScope s_shape) (by decide +kernel)) (fun _ _ _ _ _ => pg_name (i := 8) sc_shape.nd rfl (Or.inl rfl)) (fun _ _ _ _ _ => pts_nil) (fun _ _ _ _ _ => (pe_tup (pa_cons (pv 8) (pa_cons (pv 7) pa_nil)))))))) (pss_one (ps_if (pt_cmpR op_eq (pv 3) pe_int (nomark _)) (pss_one (ps_expr (pe_bm PySem.F.plainAttrs_list PySem.F.slot_list_append PySem.F.type_list_append mt_append (pv 6) (pa_cons (pe_tup (pa_cons (pe_op op_sub (pv 7) pe_int) (pa_cons (pv 7) pa_nil))) pa_nil)))) (pss_one (ps_if (PW.pt (pw_and (pt_cmpR op_eq (pv 3) pe_int (nomark _)) (pw_and1 (pt_cmpR op_ne (pv 7) (pv 5) (nomark _))))) (pss_one (ps_expr (pe_bm PySem.F.plainAttrs_list PySem.F.slot_list_append PySem.F.type_list_append mt_append (pv 6) (pa_cons (pe_tup (pa_cons (pe_callB (call_minI rfl) (by rfl) B.min (by decide +kernel) (pa_cons (pe_op op_mul (pe_op op_modN (pv 7) pe_int) (pv 5)) (pa_cons (pv 7) pa_nil))) (pa_cons (pe_callB (call_maxI rfl) (by rfl) B.max (by decide +kernel) (pa_cons (pe_op op_mul (pe_op op_modN (pv 7) pe_int) (pv 5)) (pa_cons (pv 7) pa_nil))) pa_nil))) pa_nil)))) pss_nil)))))))))))))))))
      (C8.pss_cut (ps_if (PW.pt (pw_and (pt_cmpR op_eq (pv 3) pe_int (nomark _)) (pw_and1 (pt_cmpR op_gt (pv 1) pe_int (nomark _))))) (pss_one (ps_expr (pe_bm PySem.F.plainAttrs_list PySem.F.slot_list_append PySem.F.type_list_append mt_append (pv 6) (pa_cons (pe_tup (pa_cons pe_int (pa_cons (pe_op op_sub (pv 1) pe_int) pa_nil))) pa_nil)))) pss_nil)
      (C8.pss_cut (ps_if (pt_cmpR op_gt (pe_callB (call_lenXK (K := K)) (by rfl) B.len PySem.boot_len (pa_cons (pv 6) pa_nil)) (pv 2) (nomark _)) (pss_one (ps_set (i := 6) sc_shape.nd rfl (.inl rfl) (pe_slice (sl_listK (K := K)) (pe_call G_shuffled (hr.mono (by omega)) (by rfl) D_shuffled.g D_shuffled.F.kp D_shuffled.b .nil pass0 (pa_cons (pv 0) (pa_cons (pv 6) pa_nil))) po_none (po_some (pv 2))))) pss_nil)
      (pss_one (ps_ret (pv 6))))))))))), ?_⟩
    walk_at "st"
    refine ⟨a, c, _, rfl, S0, by decide, fun v H1 S1 b1 ⟨kind0, e, _, _⟩ => ?_⟩
    subst e
    walk_at "rt"
    refine r_cut (fun σ H' => StoreAt H' a c ∧ But a H H' ∧ ∃ kind : Int, 0 ≤ kind ∧ kind ≤ 10 ∧ σ = [some (.ref a), some (.int many), some (.int bound), some (.int kind), none, none, none, none, none]) (fun N kk => ?_) ?_
    · walk_at "rt"
      refine ite2 (fun _ => ⟨a, c, _, rfl, S1, by decide, fun v H2 S2 b2 ⟨bb, e⟩ => ⟨bb, e, ?_⟩⟩) (fun _ => kk _ _ ⟨S1, b1, kind0, by omega, by omega, rfl⟩)
      cases bb with
      | true => exact kk _ _ ⟨S2, b1.trans b2, 3, by decide, by decide, rfl⟩
      | false => exact kk _ _ ⟨S2, b1.trans b2, kind0, by omega, by omega, rfl⟩
    rintro σ H2 ⟨S2, b2, kind, _, _, rfl⟩
    walk_at "st"
    refine ⟨a, c, _, rfl, S2, by decide, fun v H3 S3 b3 ⟨wd, e, _, _⟩ => ⟨wd, e, ?_⟩⟩
    walk_at "st"
    refine ⟨a, c, _, rfl, S3, by omega, fun v H4 S4 b4 ⟨cut, e, hcut, _⟩ => ?_⟩
    subst e
    walk_at "st"
    refine ⟨Nat.zero_le _, fun pl npl => ?_⟩
    have b04 := (b2.trans b3).trans b4
    have free : ∀ (H' : Hp) r, But a H H' → StoreAt H' a c → H' r = none → H r = none := fun H' r b S h => by
      cases e : H r with
      | none => rfl
      | some o => have := b r o (S.ne1 h) e; rw [h] at this; cases this
    have R0 : Shp H (L2.upd H4 pl (.lst [])) a c many kind cut pl [] [] 1 0 := ⟨S4.new npl, b04.trans (Keeps.but (Keeps.new npl)), free H4 pl b04 S4 npl, S4.ne1 npl, upd_same, ⟨rfl, fun i p v h _ => (by simp at h)⟩, List.nodup_nil, fun p h => (by cases h), Nat.le_refl _⟩
    generalize L2.upd H4 pl (.lst []) = H5 at R0 ⊢
    walk_at "st"
    refine ⟨by omega, by omega, by omega, by omega, ?_⟩
    refine r_range (fun i σ H' => ∃ pl ps vs, ∃ x7 x8 : Option V, σ = [some (.ref a), some (.int many), some (.int bound), some (.int kind), some (.int (2 + wd)), some (.int cut), some (.ref pl), x7, x8] ∧ Shp H H' a c many kind cut pl ps vs (1 + (i : Int)) (26 * i)) ⟨pl, [], [], _, _, rfl, R0⟩ ?_ ?_
    · rintro i σ H6 hi ⟨pl, ps, vs, x7, x8, rfl, R⟩ N kk
      have hi : (i : Int) < many - 1 := by omega
      have plc : pl ≠ c := S0.ne2 R.new
      have vl : vs.length ≤ 676 := by rw [R.at'.1]; have := R.len; omega
      have none_ : ∀ H', StoreAt H' a c → But a H6 H' → ∀ x7 x8, N [some (.ref a), some (.int many), some (.int bound), some (.int kind), some (.int (2 + wd)), some (.int cut), some (.ref pl), x7, x8] H' := fun H' S' b' x7 x8 => kk _ _ ⟨pl, ps, vs, x7, x8, rfl, R.to S' b' (by omega) (by omega)⟩
      have one : ∀ H' x y, StoreAt H' a c → But a H6 H' → Made kind cut (1 + (i : Int)) x y → y < many → (kind = 10 → (1 + (i : Int)) ≠ cut) → ∀ t, H' t = none → ∀ x7 x8, N [some (.ref a), some (.int many), some (.int bound), some (.int kind), some (.int (2 + wd)), some (.int cut), some (.ref pl), x7, x8] (L2.upd (L2.upd H' t (.tup [.int x, .int y])) pl (.lst (vs ++ [.ref t]))) := fun H' x y S' b' hm hy hk t ht x7 x8 => by
        have R' := (R.to S' b' (Int.le_refl _) (Nat.le_refl _)).add plc ht hcut (by omega) hk hm hy
        exact kk _ _ ⟨pl, _, _, x7, x8, rfl, R'.to R'.S (fun _ _ _ h => h) (by omega) (by omega)⟩
      have leaf : ∀ H' x y x8, StoreAt H' a c → But a H6 H' → Made kind cut (1 + (i : Int)) x y → y < many → (kind = 10 → (1 + (i : Int)) ≠ cut) → tyV K "list" (.ref pl) H' ∧ 2 ≤ sizeLine ∧ ∀ (p : Addr), H' p = none → ∃ xx, L2.upd H' p (.tup [.int x, .int y]) pl = some (.lst xx) ∧ xx.length < sizeLine ∧ N [some (.ref a), some (.int many), some (.int bound), some (.int kind), some (.int (2 + wd)), some (.int cut), some (.ref pl), some (.int (1 + (i : Int))), x8] (L2.upd (L2.upd H' p (.tup [.int x, .int y])) pl (.lst (xx ++ [.ref p]))) := fun H' x y x8 S' b' hm hy hk =>
        ⟨.inl ⟨rfl, _, sq_of (b' _ _ R.pa R.hp)⟩, by rw [PySem.sizeLine_eq]; decide, fun t ht => ⟨vs, (upd_ne (ne_of_none (b' _ _ R.pa R.hp) ht)).trans (b' _ _ R.pa R.hp), size_ok (by omega), one H' x y S' b' hm hy hk t ht _ _⟩⟩
      have ids : But a H6 H6 := fun _ _ _ h => h
      have mk1 : kind ≠ 10 → ∀ x, 0 ≤ x → x < 1 + (i : Int) → (kind = 1 → x + 1 = 1 + (i : Int)) → Made kind cut (1 + (i : Int)) x (1 + (i : Int)) := fun h x h1 h2 h3 => ⟨h1, h2, h3, fun _ => rfl, fun z => absurd z h⟩
      have row1 : ∀ D H8 (N2 : VK) (j : Nat) qs us, D ≠ a → D ≠ c → H6 D = none → StoreAt H8 a c → But a H6 H8 → H8 D = some (.lst us) → PrsAt H8 a qs us → qs.Nodup → qs.length ≤ j → (∀ p ∈ qs, 0 ≤ p.1 ∧ p.1 < (j : Int) ∧ p.2 = 1 + (i : Int)) → j < 26 →
          (∀ y H4 got, H4 D = some (.lst got) → got.length < sizeLine → (StoreAt (L2.upd H4 D (.lst (got ++ [y]))) a c ∧ But a H6 (L2.upd H4 D (.lst (got ++ [y]))) ∧ ∃ qs us, L2.upd H4 D (.lst (got ++ [y])) D = some (.lst us) ∧ PrsAt (L2.upd H4 D (.lst (got ++ [y]))) a qs us ∧ qs.Nodup ∧ qs.length ≤ j + 1 ∧ ∀ p ∈ qs, 0 ≤ p.1 ∧ p.1 < ((j + 1 : Nat) : Int) ∧ p.2 = 1 + (i : Int)) → N2 y H4) →
          2 ≤ sizeLine ∧ ∀ p, H8 p = none → N2 (.ref p) (L2.upd H8 p (.tup [.int (0 + (j : Int)), .int (1 + (i : Int))])) := fun D H8 N2 j qs us Da Dc nD S8 b8 hD hat nd ql hq hj kN => by
        refine ⟨by rw [PySem.sizeLine_eq]; decide, fun t ht => ?_⟩
        have tD : D ≠ t := ne_of_none hD ht
        have ta := S8.ne1 ht
        refine kN _ _ us ((upd_ne tD).trans hD) (size_ok (by rw [hat.1]; omega)) ⟨(S8.new ht).put Da Dc, fun b o hb e => ?_, qs ++ [(0 + (j : Int), 1 + (i : Int))], _, upd_same, PrsAt.put ((hat.put (ys := []) (.inr ht)).snoc ta upd_same) (.inl ((upd_ne tD).trans hD)), List.nodup_append.mpr ⟨nd, by simp, fun p hp q hq' z => ?_⟩, ?_, fun p hp => ?_⟩
        · rw [upd_ne (fun z => by rw [z, nD] at e; cases e)]
          exact Keeps.new ht _ _ (b8 b o hb e)
        · rw [List.mem_singleton.mp hq'] at z
          have := (hq p hp).2.1
          rw [z] at this
          simp only at this
          omega
        · rw [List.length_append]
          exact Nat.succ_le_succ ql
        · rcases List.mem_append.mp hp with hp | hp
          · have := hq p hp
            omega
          · rw [List.mem_singleton.mp hp]
            exact ⟨by simp only; omega, by simp only; omega, rfl⟩
      have row2 : ∀ D H7 qs us, StoreAt H7 a c → But a H6 H7 → H7 D = some (.lst us) → PrsAt H7 a qs us → qs.Nodup → qs.length ≤ 26 → kind ≠ 10 → kind ≠ 1 → (∀ p ∈ qs, 0 ≤ p.1 ∧ p.1 < 1 + (i : Int) ∧ p.2 = 1 + (i : Int)) → ∀ x7 x8 : Option V,
          ∃ xs, H7 pl = some (.lst xs) ∧ ∃ zs, H7 D = some (.lst zs) ∧ xs.length + zs.length ≤ sizeLine ∧ ∀ p, H7 p = none → N [some (.ref a), some (.int many), some (.int bound), some (.int kind), some (.int (2 + wd)), some (.int cut), some (.ref p), x7, x8] (L2.upd H7 p (.lst (xs ++ zs))) := fun D H7 qs us S7 b7 hD hat nd ql h10 h1 hq x7 x8 =>
        ⟨vs, b7 _ _ R.pa R.hp, us, hD, line_of (by rw [hat.1]; omega), fun p np => kk _ _ ⟨p, _, _, x7, x8, rfl, (fun R2 => R2.to R2.S (fun _ _ _ h => h) (by omega) (by omega)) (R.row (by omega) h10 h1 (by omega) S7 b7 np hat hq nd ql)⟩⟩
      have lf : kind ≠ 10 → ∀ H' x x8, StoreAt H' a c → But a H6 H' → 0 ≤ x → x < 1 + (i : Int) → (kind = 1 → x + 1 = 1 + (i : Int)) → _ := fun h H' x x8 S' b' h1 h2 h3 => leaf H' x (1 + (i : Int)) x8 S' b' (mk1 h x h1 h2 h3) (by omega) (fun z => absurd z h)
      walk_at "rt"
      repeat' (first | refine ite2 (fun h => ?_) (fun h => ?_))
      all_goals try (exact lf (by omega) H6 _ _ R.S ids (by omega) (by omega) (by omega))
      all_goals try (exact none_ H6 R.S ids _ _)
      -- kind 4: a drawn earlier one
      all_goals try (refine ⟨.inl ⟨rfl, _, sq_of R.hp⟩, a, c, _, rfl, R.S, by omega, fun v H7 S7 b7 ⟨y, e, y0, y1⟩ => ?_⟩; subst e; exact (lf (by omega) H7 _ _ S7 b7 (by omega) (by omega) (by omega)).2)
      all_goals try (exfalso; omega)
      · -- kind 3: a grid
        have hk : kind = 3 := by assumption
        have w2 : 0 ≤ wd := by assumption
        refine r_cut (fun σ H' => ∃ ps' vs', σ = [some (.ref a), some (.int many), some (.int bound), some (.int kind), some (.int (2 + wd)), some (.int cut), some (.ref pl), some (.int (1 + (i : Int))), x8] ∧ Shp H H' a c many kind cut pl ps' vs' (1 + (i : Int) + 1) (26 * i + 1) ∧ ∀ p ∈ ps', p ∈ ps ∨ p = ((1 + (i : Int)) - 1, 1 + (i : Int))) (fun N2 k2 => ?_) ?_
        · walk_at "rt"
          refine ⟨by omega, ite2 (fun _ => ⟨.inl ⟨rfl, _, sq_of R.hp⟩, by rw [PySem.sizeLine_eq]; decide, fun t ht => ⟨vs, (upd_ne (ne_of_none R.hp ht)).trans R.hp, size_ok (by omega), k2 _ _ ⟨_, _, rfl, R.add plc ht hcut (by omega) (fun z => by omega) (mk1 (by omega) _ (by omega) (by omega) (by omega)) (by omega), fun p hp => ?_⟩⟩⟩) (fun _ => k2 _ _ ⟨ps, vs, rfl, R.to R.S ids (by omega) (by omega), fun p hp => .inl hp⟩)⟩
          rcases List.mem_append.mp hp with hp | hp
          · exact .inl hp
          · exact .inr (List.mem_singleton.mp hp)
        rintro σ H7 ⟨ps', vs', rfl, R', hps⟩
        have vl : vs'.length ≤ 677 := by rw [R'.at'.1]; have := R'.len; omega
        walk_at "rt"
        refine ite2 (fun hge => ⟨.inl ⟨rfl, _, sq_of R'.hp⟩, by rw [PySem.sizeLine_eq]; decide, fun t ht => ⟨vs', (upd_ne (ne_of_none R'.hp ht)).trans R'.hp, size_ok (by omega), ?_⟩⟩) (fun _ => kk _ _ ⟨pl, ps', vs', _, _, rfl, R'.to R'.S (fun _ _ _ h => h) (by omega) (by omega)⟩)
        have R2 := R'.push (l := 1 + (i : Int)) (x := 1 + (i : Int) - (2 + wd)) (y := 1 + (i : Int)) plc ht (fun z => by
          rcases hps _ z with z | z
          · obtain ⟨l, _, h2, _, h4, _⟩ := R.made _ z
            have := h4.2.2.2.1 (by omega)
            simp only at this
            omega
          · have := congrArg Prod.fst z
            simp only at this
            omega) (by omega) (by omega) (fun z => by omega) ⟨by omega, by omega, fun z => by omega, fun _ => rfl, fun z => by omega⟩ (by omega)
        exact kk _ _ ⟨pl, _, _, _, _, rfl, R2.to R2.S (fun _ _ _ h => h) (by omega) (by omega)⟩
      · -- kind 6: some of the earlier ones
        have hk : kind = 6 := by assumption
        refine ⟨by omega, by omega, fun D nD => ?_⟩
        have Da := R.S.ne1 nD
        have Dc := R.S.ne2 nD
        refine r_lcRT (n := (1 + (i : Int)).toNat) (fun j H' => StoreAt H' a c ∧ But a H6 H' ∧ ∃ qs us, H' D = some (.lst us) ∧ PrsAt H' a qs us ∧ qs.Nodup ∧ qs.length ≤ j ∧ ∀ p ∈ qs, 0 ≤ p.1 ∧ p.1 < (j : Int) ∧ p.2 = 1 + (i : Int)) (fun _ => rfl) ⟨R.S.new nD, Keeps.but (Keeps.new nD), [], [], upd_same, ⟨rfl, fun i p v h _ => (by simp at h)⟩, List.nodup_nil, Nat.le_refl _, fun p h => (by cases h)⟩ ?_ ?_
        · rintro j H7 hj ⟨S7, b7, qs, us, hD, hat, nd, ql, hq⟩ N2 M kN kM
          walk_at "rt"
          refine ⟨a, c, _, rfl, S7, by decide, fun v H8 S8 b8 ⟨bb, e⟩ => ⟨bb, e, ?_⟩⟩
          have hD8 := b8 D _ Da hD
          have hat8 := hat.but b8
          cases bb with
          | true =>
            simp only [if_true]
            walk_at "rt"
            exact row1 D H8 _ j qs us Da Dc nD S8 (b7.trans b8) hD8 hat8 nd ql hq (by omega) kN
          | false =>
            simp only [Bool.false_eq_true, if_false]
            exact kM H8 ⟨S8, b7.trans b8, qs, us, hD8, hat8, nd, by omega, fun p hp => by have := hq p hp; omega⟩
        · rintro H7 ⟨S7, b7, qs, us, hD, hat, nd, ql, hq⟩
          exact row2 D H7 qs us S7 b7 hD hat nd (by omega) (by omega) (by omega) (fun p hp => by have := hq p hp; omega) _ _
      · -- kind 7: all earlier ones
        have hk : kind = 7 := by assumption
        refine ⟨by omega, by omega, fun D nD => ?_⟩
        have Da := R.S.ne1 nD
        have Dc := R.S.ne2 nD
        refine r_lcRT (n := (1 + (i : Int)).toNat) (fun j H' => StoreAt H' a c ∧ But a H6 H' ∧ ∃ qs us, H' D = some (.lst us) ∧ PrsAt H' a qs us ∧ qs.Nodup ∧ qs.length ≤ j ∧ ∀ p ∈ qs, 0 ≤ p.1 ∧ p.1 < (j : Int) ∧ p.2 = 1 + (i : Int)) (fun _ => rfl) ⟨R.S.new nD, Keeps.but (Keeps.new nD), [], [], upd_same, ⟨rfl, fun i p v h _ => (by simp at h)⟩, List.nodup_nil, Nat.le_refl _, fun p h => (by cases h)⟩ ?_ ?_
        · rintro j H7 hj ⟨S7, b7, qs, us, hD, hat, nd, ql, hq⟩ N2 M kN kM
          simp only [tYes, if_pos]
          walk_at "rt"
          exact row1 D H7 _ j qs us Da Dc nD S7 b7 hD hat nd ql hq (by omega) kN
        · rintro H7 ⟨S7, b7, qs, us, hD, hat, nd, ql, hq⟩
          exact row2 D H7 qs us S7 b7 hD hat nd (by omega) (by omega) (by omega) (fun p hp => by have := hq p hp; omega) _ _
      · -- kind 10
        have hk : kind = 10 := by omega
        have hc : (1 + (i : Int)) ≠ cut := by omega
        have ef : (1 + (i : Int)).fmod 2 = (1 + (i : Int)) % 2 := Int.fmod_eq_emod_of_nonneg _ (by decide)
        have em : (1 + (i : Int)) % 2 = 0 ∨ (1 + (i : Int)) % 2 = 1 := by omega
        have cm : CMul ((1 + (i : Int)).fmod 2) cut := by
          rw [ef]
          rcases em with e | e <;> rw [e] <;> unfold CMul <;> omega
        obtain ⟨t, ht, e⟩ : ∃ t : Int, (t = 0 ∧ (1 + (i : Int)) % 2 = 0 ∨ t = cut ∧ (1 + (i : Int)) % 2 = 1) ∧ (1 + (i : Int)).fmod 2 * cut = t := by
          rw [ef]
          rcases em with e | e
          · exact ⟨0, .inl ⟨rfl, e⟩, by rw [e, Int.zero_mul]⟩
          · exact ⟨cut, .inr ⟨rfl, e⟩, by rw [e, Int.one_mul]⟩
        refine ⟨.inl ⟨rfl, _, sq_of R.hp⟩, cm, cm, ?_⟩
        rw [e]
        by_cases hlt : 1 + (i : Int) < t
        · rw [if_pos hlt, if_neg (by omega)]
          exact (leaf H6 _ _ x8 R.S ids ⟨by omega, by omega, fun z => by omega, fun z => absurd hk z, fun _ => ⟨t, ht, by omega, .inr ⟨rfl, rfl⟩⟩⟩ (by omega) (fun _ => hc)).2
        · rw [if_neg hlt, if_pos (by omega)]
          exact (leaf H6 _ _ x8 R.S ids ⟨by omega, by omega, fun z => by omega, fun z => absurd hk z, fun _ => ⟨t, ht, by omega, .inl ⟨rfl, rfl⟩⟩⟩ (by omega) (fun _ => hc)).2
    · rintro σ H6 ⟨pl, ps, vs, x7, x8, rfl, R⟩
      have hn : 26 * (many - 1).toNat ≤ 650 := by omega
      have vl : vs.length ≤ 650 := by rw [R.at'.1]; have := R.len; omega
      have plc : pl ≠ c := S0.ne2 R.new
      have prs : PrsL many ps := ⟨R.nd, fun p hp => by
        obtain ⟨l, _, _, _, h4, h5⟩ := R.made p hp
        exact ⟨h4.1, h4.2.1, h5⟩⟩
      refine r_cut (fun σ H' => σ = [some (.ref a), some (.int many), some (.int bound), some (.int kind), some (.int (2 + wd)), some (.int cut), some (.ref pl), x7, x8] ∧ StoreAt H' a c ∧ But a H H' ∧ ∃ ps vs, H' pl = some (.lst vs) ∧ PrsAt H' a ps vs ∧ PrsL many ps ∧ vs.length ≤ 651) (fun N2 k2 => ?_) ?_
      · have no : N2 [some (.ref a), some (.int many), some (.int bound), some (.int kind), some (.int (2 + wd)), some (.int cut), some (.ref pl), x7, x8] H6 := k2 _ _ ⟨rfl, R.S, R.bt, ps, vs, R.hp, R.at', prs, by omega⟩
        walk_at "rt"
        refine ite2 (fun hk => ite2 (fun h2 => ⟨.inl ⟨rfl, _, sq_of R.hp⟩, by rw [PySem.sizeLine_eq]; decide, fun t ht => ?_⟩) (fun _ => no)) (fun _ => no)
        have tp : pl ≠ t := ne_of_none R.hp ht
        refine ⟨vs, (upd_ne tp).trans R.hp, size_ok (by omega), k2 _ _ ⟨rfl, (R.S.new ht).put R.pa plc, fun b o hb e => ?_, ps ++ [(0, many - 1)], _, upd_same, PrsAt.put ((R.at'.put (ys := []) (.inr ht)).snoc (R.S.ne1 ht) upd_same) (.inl ((upd_ne tp).trans R.hp)), ⟨List.nodup_append.mpr ⟨prs.1, by simp, fun x hx y hy z => ?_⟩, fun p hp => ?_⟩, ?_⟩⟩
        · rw [upd_ne (fun z => by rw [z, R.new] at e; cases e)]
          exact Keeps.new ht _ _ (R.bt b o hb e)
        · rw [List.mem_singleton.mp hy] at z
          obtain ⟨l, _, h2, _, h4, h5⟩ := R.made x hx
          have := h4.2.2.1 hk
          rw [z] at this
          simp only at this
          omega
        · rcases List.mem_append.mp hp with hp | hp
          · exact prs.2 p hp
          · rw [List.mem_singleton.mp hp]
            exact ⟨by simp only; omega, by simp only; omega, by simp only; omega⟩
        · rw [List.length_append, List.length_singleton]
          omega
      rintro σ H7 ⟨rfl, S7, b7, ps', vs', hp7, at7, prs7, vl7⟩
      refine r_cut (fun σ H' => StoreAt H' a c ∧ But a H H' ∧ ∃ pl, σ = [some (.ref a), some (.int many), some (.int bound), some (.int kind), some (.int (2 + wd)), some (.int cut), some (.ref pl), x7, x8] ∧ H pl = none ∧ ∃ ps vs, H' pl = some (.lst vs) ∧ PrsAt H' a ps vs ∧ PrsL many ps ∧ (ps.length : Int) ≤ bound) (fun N2 k2 => ?_) ?_
      · walk_at "rt"
        refine ⟨vs', .inl (sq_of hp7), ite2 (fun h => ?_) (fun h => k2 _ _ ⟨S7, b7, pl, rfl, R.new, ps', vs', hp7, at7, prs7, by rw [← at7.1]; omega⟩)⟩
        refine ⟨a, c, pl, vs', rfl, S7, hp7, R.pa, by omega, fun q2 ys H8 S8 b8 n8 h8 pm => ?_⟩
        refine ⟨q2, rfl, ys, sq_of h8, fun r nr => ?_⟩
        obtain ⟨bn, rfl⟩ : ∃ n : Nat, bound = (n : Int) := ⟨bound.toNat, by omega⟩
        obtain ⟨qs, qp, qa⟩ := (at7.but b8).perm pm
        rw [cutV_to]
        refine k2 _ _ ⟨S8.new nr, (b7.trans b8).trans (Keeps.but (Keeps.new nr)), r, rfl, ?_, qs.take bn, _, upd_same, (qa.take bn).put (ys := []) (.inr nr), ⟨(List.take_sublist _ _).nodup (qp.nodup_iff.mpr prs7.1), fun p hp => prs7.2 p (qp.mem_iff.mp (List.mem_of_mem_take hp))⟩, ?_⟩
        · exact free H8 r (b7.trans b8) S8 nr
        · rw [List.length_take]
          omega
      rintro σ H8 ⟨S8, b8, pl2, rfl, n2, qs, us, h8, at8, prs8, hl⟩
      walk_at "rt"
      exact q pl2 qs us H8 S8 b8 n2 h8 at8 prs8 hl
end
end K01
namespace WX
open PySem PySem.Spec PyProof.Rows L2
/-! ### -x, x == y, x != y by the class's own defs -/
/-- a def that stands in the class under a name -/
structure Sm (K : PySem.W.Frag) (C : Addr) (m : Str) (f : Addr) : Prop where
  at_ : PySem.W.findIn K (.ref C) m = some (some (.ref f))
  fn : PySem.W.isFn K (.ref f) = true
section
variable {X : Cx} {CX : CXT} {n : Nat} {C f : Addr} {fd : FuncData} {ps : List Str} {sp : Sp} {E : XK}
theorem un_own (S : Sm X.K C "__neg__" f) (F : FnOk X.prog X.w X.K X.mg X.base CX n f fd ps sp) (hr : Room n X.A) (hb : Binds X.K fd ps []) (hx : Passes CX X E) :
    UnR X (unaryOp .USub) (fun x H Q => ∃ a dx fs, x = .ref a ∧ H a = some (.ins C dx fs) ∧ sp [.ref a] H Q E) := by
  intro pins s σ H x v Q I rx h
  obtain ⟨a, dx, fs, rfl, ha, q⟩ := h
  cases rx
  obtain ⟨mA, J, _⟩ := ins_get I.hok ha
  obtain ⟨od, J, _⟩ := J.look
  obtain ⟨m, hF⟩ := I.fr
  exact PySem.W.ksp_neg hF I.ok.mod.kin J S.at_ S.fn (run_fn (vs := [.ref a]) (us := [.ref a]) F hr hb .nil hx I (.cons rfl .nil) q)
/-- what may stand on the right: a text, a number, an instance -/
def Rt (K : PySem.W.Frag) (C : Addr) (y : V) (H : Hp) : Prop := (∃ z, y = .str z) ∨ (∃ i, y = .int i) ∨ ∃ b D dy gs, y = .ref b ∧ H b = some (.ins D dy gs) ∧ PySem.W.notFirst K C (.ref D) = true
theorem Rt.looks {K : PySem.W.Frag} {pins : List (Addr × Obj)} {σ : L2.St} {H : Hp} {s : Shared} {y : V} {u : Value} (h : Rt K C y H) (I : Inv X pins σ H s) (r : RelV y u) (ns : PySem.W.notFirst K C (.type "str") = true) (ni : PySem.W.notFirst K C (.type "int") = true) :
    ∃ tb, PySem.W.Looks (model X.prog X.w) s.heap (typeOf u) tb ∧ PySem.W.notFirst K C tb = true := by
  rcases h with ⟨z, rfl⟩ | ⟨i, rfl⟩ | ⟨b, D, dy, gs, rfl, hb, nf⟩
  · obtain ⟨t, rfl⟩ := r
    exact ⟨_, .of_pure rfl, ns⟩
  · obtain ⟨t, rfl⟩ := r
    exact ⟨_, .of_pure rfl, ni⟩
  · cases r
    obtain ⟨mA, J, _⟩ := ins_get I.hok hb
    obtain ⟨od, J, _⟩ := J.look
    exact ⟨_, J.type, nf⟩
def rOwnC (K : PySem.W.Frag) (C : Addr) (sp : Sp) (E : XK) (g : Bool → Bool) : R2 := fun x y H Q => ∃ a dx fs, x = .ref a ∧ H a = some (.ins C dx fs) ∧ Rt K C y H ∧ sp [x, y] H (fun v H' => ∃ c, v = .bl c ∧ Q (.bl (g c)) H') E
theorem op_eqO (S : Sm X.K C "__eq__" f) (F : FnOk X.prog X.w X.K X.mg X.base CX n f fd ps sp) (hr : Room n X.A) (hb : Binds X.K fd ps []) (hx : Passes CX X E) (ns : PySem.W.notFirst X.K C (.type "str") = true) (ni : PySem.W.notFirst X.K C (.type "int") = true) :
    OpR X (compareOp .Eq) (rOwnC X.K C sp E fun c => c) := by
  intro pins s σ H x y v u Q I rx ry h
  obtain ⟨a, dx, fs, rfl, ha, hy, q⟩ := h
  cases rx
  obtain ⟨mA, J, _⟩ := ins_get I.hok ha
  obtain ⟨od, J, _⟩ := J.look
  obtain ⟨m, hF⟩ := I.fr
  obtain ⟨tb, ht, hn⟩ := hy.looks I ry ns ni
  refine PySem.W.cmp_ofEq (PySem.W.cmp_K hr.units0 hF I.ok.mod.kin J ht hn S.at_ S.fn (wpAny_mono (run_fn (vs := [.ref a, y]) (us := [.ref a, u]) F hr hb .nil hx I (.cons rfl (.cons ry .nil)) q) (fun r s' z => ?_) fun _ _ z => z))
  obtain ⟨v, H', I', rv, c, rfl, q⟩ := z
  cases rv
  exact ⟨.bl c, H', I', rfl, q⟩
/-- x.__ne__(y) is the built-in one, which asks __eq__ -/
structure NeC (K : PySem.W.Frag) (C : Addr) : Prop where
  at_ : PySem.W.findIn K (.ref C) "__ne__" = some (some (.builtin "object.__ne__"))
  ob : PySem.W.subIn K (.ref C) (.type "object") = some true
  ns : PySem.W.notFirst K C (.type "str") = true
  ni : PySem.W.notFirst K C (.type "int") = true
theorem op_neO (N : NeC X.K C) (S : Sm X.K C "__eq__" f) (F : FnOk X.prog X.w X.K X.mg X.base CX n f fd ps sp) (hr : Room (n + 1) X.A) (hb : Binds X.K fd ps []) (hx : Passes CX X E) :
    OpR X (compareOp .NotEq) (rOwnC X.K C sp E fun c => !c) := by
  intro pins s σ H x y v u Q I rx ry h
  obtain ⟨a, dx, fs, rfl, ha, hy, q⟩ := h
  cases rx
  obtain ⟨mA, J, _⟩ := ins_get I.hok ha
  obtain ⟨od, J, _⟩ := J.look
  obtain ⟨m, hF⟩ := I.fr
  obtain ⟨tb, ht, hn⟩ := hy.looks I ry N.ns N.ni
  have sb : Sub X n X.A.in1 := Sub.in1 ⟨hr, rfl⟩
  have run : wpAny (model X.prog X.w) X.A.in1 (call (.ref f) [.ref a, u]) (EP X pins σ fun v H' => ∃ c, v = .bl c ∧ Q (.bl (!c)) H') X.xe s := by
    have r2 : Vals [V.ref a, y] [Value.ref a, u] := .cons rfl (.cons ry .nil)
    have hl := F.len _ _ _ _ q
    refine wpAny_call (codeAny_mono (F.run X.A.in1 X.stack s H ⟨[.ref a, u], []⟩ [.ref a, u] [.ref a, y] _ E sb.room I.env0.in1 (by have := hb s [.ref a, u] I.kIn (by simpa using hl); simpa using this) r2 q) fun r s' hq => ?_)
    rcases r with e | (_ | _ | _ | v)
    · exact hx pins σ H s e s' I hq
    · exact False.elim hq
    · exact False.elim hq
    · exact False.elim hq
    · exact I.after hq
  have ask : wpAny (model X.prog X.w) X.A (call (.builtin "object.__ne__") [.ref a, u]) (PySem.W.CmpBack (EP X pins σ Q)) X.xe s := by
    have t2 : PySem.W.Looks (model X.prog X.w) s.heap (isInstance (.ref a) (.type "object")) true := J.type.andThen (PySem.W.looks_subIn I.kIn N.ob)
    refine wpAny_call (codeAny_call_builtin PySem.F.cmp_object.ne.plain PySem.F.cmpEntry_ne (PySem.W.check_slot PySem.F.cmpKind_ne PySem.F.cmpSplit_ne t2 (PySem.F.cmpArgs_ne _ _) ?_))
    unfold Builtin.«object.__ne__»
    refine wpAny_bind (wpAny_of_eq (a := (Value.ref a, [u])) (by first | rfl | kernel_rfl) ?_)
    refine wpAny_bind (wpAny_cRoomFor sb.room.units0 ?_)
    refine wpAny_bind (PySem.W.ifBound_K I.kIn J S.at_ S.fn (wpAny_mono run (fun r s' z => ?_) fun _ _ z => z))
    obtain ⟨w0, H', I', rv, c, rfl, q⟩ := z
    cases rv
    show wpAny _ _ (truthy (.bool c) >>= _) _ _ _
    refine wpAny_bind (wpAny_of_eq (a := c) (by first | rfl | kernel_rfl) (wpAny_pure ?_))
    exact ⟨.bl (!c), H', I', rfl, q⟩
  have one : wpAny (model X.prog X.w) X.A (tryCompare (.ref a) "__ne__" u) (fun r s' => ∃ v, r = some v ∧ EP X pins σ Q v s') X.xe s := by
    unfold tryCompare
    refine wpAny_bind ?_
    simp only [callSpecialIfBound?, bindSpecialIfBound?]
    refine wpAny_holding (wpAny_bind (wpAny_bind (wpAny_bind (J.type.here ((PySem.W.looks_findIn I.kIn N.at_).here ?_)))))
    refine wpAny_bind (wpAny_askSetting (wpAny_ite ?_))
    have fin : wpAny (model X.prog X.w) X.A (call (.builtin "object.__ne__") ([.ref a] ++ [u]) >>= fun v => pure (some v)) (fun r s' => wpAny (model X.prog X.w) X.A (match r with | some .notImplemented => pure none | none => pure none | some v => pure (some v)) (fun r s' => ∃ v, r = some v ∧ EP X pins σ Q v s') X.xe s') X.xe s :=
      wpAny_bind (wpAny_mono ask (fun v s' h' => wpAny_pure (by cases v <;> first | exact h'.elim | exact wpAny_pure ⟨_, rfl, h'⟩)) fun _ _ h' => h')
    simp only [PySem.F.cmp_object.ne.bind]
    split
    · exact wpAny_bind (wpAny_pure (wpAny_pure (by exact fin)))
    · exact wpAny_tryCatch (wpAny_bind (wpAny_pure (wpAny_pure (by exact fin))))
  refine PySem.W.cmp_ofNotEq ?_
  unfold richCompare
  simp only [oneThing_ref]
  refine wpAny_holding (wpAny_bind (wpAny_cRoomFor hr.units0 (wpAny_bind (J.type.here (wpAny_bind (ht.here ?_))))))
  split
  · rename_i z
    have e : PySem.W.subIn X.K tb (.ref C) = some false := by
      rcases Bool.or_eq_true_iff.mp hn with e | e
      · rw [beq_iff_eq.mp e] at z
        simp at z
      · exact beq_iff_eq.mp e
    refine wpAny_bind ((PySem.W.looks_subIn I.kIn e).here ?_)
    simp only [Bool.false_eq_true, if_false]
    refine wpAny_bind (wpAny_mono one (fun r s' z => ?_) fun _ _ z => z)
    obtain ⟨v, rfl, z⟩ := z
    exact wpAny_pure z
  · refine wpAny_bind (wpAny_pure ?_)
    simp only [Bool.false_eq_true, if_false]
    refine wpAny_bind (wpAny_mono one (fun r s' z => ?_) fun _ _ z => z)
    obtain ⟨v, rfl, z⟩ := z
    exact wpAny_pure z
end
end WX
namespace WX
open PySem PySem.Spec PyProof.Rows L2
/-! ### for x in o, where o.__iter__ tells a new walk over a list -/
/-- a promise that may speak of how many cells there are -/
structure FnOkS (P : Program) (w : World) (K : PySem.W.Frag) (mg : Str → Option Value) (base : Heap) (CX : CXT) (k : Nat) (f : Addr) (fd : FuncData) (ps : List Str) (sp : Nat → Sp) : Prop where
  len : ∀ n vs H Q E, sp n vs H Q E → vs.length = ps.length
  run : ∀ (A : Around) (ou : List Env) (s : Shared) (H : Hp) (ar : Args) (us : List Value) (vs : List V) (Q : VK) (E : XK), Room k A → Env0 P w K mg base A ou s H → BindsTo s fd ar (ps.zip us) → Vals vs us → sp s.heap.objs.size vs H Q E → codeAny (model P w) A (.call (.ref f) ar) (CR CX ou P w H s Q E) s
theorem okS {CX : CXT} {P : Program} {w : World} {K : PySem.W.Frag} {mg : Str → Option Value} {base : Heap} {x qual : Str} {st : Stmt} {f : Addr} {fd : FuncData} {N ps : List Str} {k : Nat} {sp : Nat → Sp} (F : Fun K x qual st f fd) (S : FnScope N ps (defScope st)) (ln : ∀ n vs H Q E, sp n vs H Q E → vs.length = ps.length)
    (go : ∀ (cv : Value) (A : Around) (ou : List Env) (s : Shared) (H : Hp) (vs : List V) (Q : VK) (E : XK), Room k (A.deeper (envOfC qual (defScope st) s.heap.objs.size f cv)) → sp s.heap.objs.size vs H Q E →
      ∃ t, PSs (cxOf CX P w K mg base N qual (defScope st) f cv A ou s H E) (defBody st) t ∧ t { nx := fun _ H' => Q .non H', rt := Q } (L2.start N vs) H) : FnOkS P w K mg base CX (k + 1) f fd ps sp := by
  obtain ⟨oc, od, kV, doc, pm, an, cv, ct, osl, e, lk, hcd⟩ := F.ex
  subst e
  refine ⟨ln, fun A ou s H ar us vs Q E hr e0 hb r hsp => ?_⟩
  have KX : K.In s.heap := e0.mod.kin.keeps (fun b o e => (e0.bs b o e).1)
  have hkind : ∀ y ∈ ps.zip us, (defScope st).names.lookup y.1 = some .local ∨ ((defScope st).names.lookup y.1 = some .cell ∧ ((cellsFrom (s.heap.objs.size + 1) (defScope st).names []).lookup y.1).isSome = true) := by
    intro ⟨n, v⟩ hy
    exact (S.par n (List.of_mem_zip hy).1).imp id (fun q => ⟨q, PySem.W.cellsFrom_some _ _ _ (.inl q)⟩)
  refine codeAny_call_function hr.depth (KX _ _ lk) rfl S.co S.gen rfl (PySem.W.codeRec_of KX hcd) (hb _ _ _ _ (wpAny_newFunctionEnv_cells S.kind hkind fun en he s1 x => ?_))
  subst he
  refine ⟨(e0.mod.nolimit.keeps fun b o e => (e0.bs b o e).1).keeps x.toInCall.keep, codeAny_func ?_⟩
  obtain ⟨t, ht, hq⟩ := go cv A ou s H vs Q E (hr.deeper _) hsp
  refine wpAny_mono (ht.run [] s1 (L2.start N vs) H _ (inv_start S hr.hd e0 (ln _ _ _ _ _ hsp) r x) hq) (fun fl s' hs => ?_) fun _ _ hs => hs
  rcases fl with _ | _ | _ | u
  · obtain ⟨σ', H', J, q⟩ := hs
    exact ⟨.non, H', J.os, J.bare, J.base, J.hok, rfl, q⟩
  · exact False.elim (let ⟨_, _, _, q⟩ := hs; q)
  · exact False.elim (let ⟨_, _, _, q⟩ := hs; q)
  · obtain ⟨v, σ', H', J, rv, q⟩ := hs
    exact ⟨v, H', J.os, J.bare, J.base, J.hok, rv, q⟩
/-- what such an __iter__ promises; R a l H: l is the list of the instance at a -/
def spIter (K : PySem.W.Frag) (R : Addr → Addr → Hp → Prop) : Nat → Sp := fun n vs H Q _ => ∃ (a l : Addr) (zs : List V), vs = [.ref a] ∧ R a l H ∧ SqL K H l zs ∧ ∀ it, H it = none → n ≤ it → Q (.ref it) (L2.upd H it (ItO l it 0))
section
variable {X : Cx} {CX : CXT} {n : Nat} {C f : Addr} {fd : FuncData} {ps : List Str} {E : XK} {R : Addr → Addr → Hp → Prop}
theorem iter_own {A : Around} {pins : List (Addr × Obj)} {σ : L2.St} {H : Hp} {s : Shared} {a dx l : Addr} {fs : List (Str × V)} {zs : List V} {Q : Value → Shared → Prop} (S : Sm X.K C "__iter__" f) (F : FnOkS X.prog X.w X.K X.mg X.base CX n f fd ps (spIter X.K R)) (sb : Sub X n A) (hb : Binds X.K fd ps []) (hx : Passes CX X E)
    (I : Inv X pins σ H s) (ha : H a = some (.ins C dx fs)) (hR : R a l H) (hz : SqL X.K H l zs)
    (h : ∀ it s', Inv X pins σ H s' → FpOk X pins H it → s'.heap.get? it = some (GNX.itObj l 0) → H it = none → Q (.ref it) s') : wpAny (model X.prog X.w) A (pyIter (.ref a)) Q X.xe s := by
  obtain ⟨mA, J, _⟩ := ins_get I.hok ha
  obtain ⟨od, J, _⟩ := J.look
  obtain ⟨m, hF⟩ := I.fr
  have e0 : Env0 X.prog X.w X.K X.mg X.base A X.stack s H := by
    obtain ⟨e1, e2, e3, e4, e5, e6, e7, e8⟩ := I.env0
    exact ⟨by rw [sb.fr]; exact e1, e2, e3, e4, e5, e6, e7, e8⟩
  have hsp : spIter X.K R s.heap.objs.size [.ref a] H (fun v H' => ∃ it, v = .ref it ∧ H it = none ∧ s.heap.objs.size ≤ it ∧ H' = L2.upd H it (ItO l it 0)) E := ⟨a, l, zs, rfl, hR, hz, fun it h1 h2 => ⟨it, rfl, h1, h2, rfl⟩⟩
  have hl := F.len _ _ _ _ _ hsp
  refine PySem.W.owit_iter hF I.ok.mod.kin J S.at_ S.fn (wpAny_call (codeAny_mono (F.run A X.stack s H ⟨[.ref a], []⟩ [.ref a] [.ref a] _ E sb.room e0 (by have := hb s [.ref a] I.kIn (by simpa using hl); simpa using this) (.cons rfl .nil) hsp) fun r s' hq => ?_))
  rcases r with e | (_ | _ | _ | u)
  · exact hx pins σ H s e s' I hq
  · exact False.elim hq
  · exact False.elim hq
  · exact False.elim hq
  · obtain ⟨v, H', I', rv, it, rfl, h1, h2, rfl⟩ := I.after hq
    cases rv
    have e1 : L2.upd H it (ItO l it 0) it = some (ItO l it 0) := upd_same
    have o := itO_get I' e1
    have J := ItX.inv_drop (φ := fun h => h.get? it = some (GNX.itObj l 0)) I' e1
    have K := ItX.inv_fp I' e1 (Nat.le_trans I.sz h2)
    rw [ItX.dropH_upd h1] at J K
    have hT : s'.TypeIs (.ref it) "list_iterator" := ⟨_, o, rfl⟩
    unfold PySem.W.OwitIt
    exact wpAny_specialOf hT slot_listiter_next.lookup (h it s' J K o h1)
/-- as what a for walks -/
def iOwn (C : Addr) (K : PySem.W.Frag) (R : Addr → Addr → Hp → Prop) (te : TE) : TI := fun σ H S => te σ H fun v H1 => ∃ a dx fs l zs, v = .ref a ∧ H1 a = some (.ins C dx fs) ∧ R a l H1 ∧ SqL K H1 l zs ∧ S (Itl K l) H1
theorem pi_own {tg e : Expr} {te : TE} (S : Sm X.K C "__iter__" f) (F : FnOkS X.prog X.w X.K X.mg X.base CX n f fd ps (spIter X.K R)) (hr : Room n X.A) (hb : Binds X.K fd ps []) (hx : Passes CX X E) (he : PE X e te) : PI X tg e (iOwn C X.K R te) := by
  refine ⟨fun pins s σ H Q I h => thn (he.run pins s σ H _ I h) fun v s1 ⟨y, H1, I1, r1, a, dx, fs, l, zs, ey, ha, hR, hz, q⟩ => ?_⟩
  subst ey
  cases r1
  refine iter_own S F ⟨hr, rfl⟩ hb hx I1 ha hR hz fun it s' I' k o _ => ⟨it, [it], _, _, H1, rfl, I', turn_list l it, ⟨_, o, rfl, rfl⟩, fun b hb => ?_, q⟩
  rw [List.mem_singleton.mp hb]
  exact k
end
end WX
namespace WX
open PySem PySem.Spec PyProof.Rows L2
/-! ### for i, c in enumerate(text) -/
def IteS (x : Str) : It := ⟨fun i _ => i < x.cps.size, fun i H v H' => ∃ T c, v = .ref T ∧ H T = none ∧ H' = L2.upd H T (.tup [.int (i : Nat), .str ⟨#[c]⟩]) ∧ x.cps[i]? = some c, fun i _ => i = x.cps.size⟩
theorem turn_enumS {P : Program} {w : World} {K : PySem.W.Frag} {elts : List Expr} {kk : Nat} {tp : Pos} (e it : Addr) (x : Str) (t : Tok) :
    Turn P w K (.Tuple elts kk tp) (IteS x) [e, it] e (fun i h => (∃ old, IsEnum h e it ((i : Nat) : Int) old) ∧ h.IsStrIter it (strIterType x) x t i ∧ e ≠ it) where
  mem := List.mem_cons_self
  obj := fun i h st b hb => by
    obtain ⟨⟨old, he⟩, ⟨o, ho, hc, hd⟩, _⟩ := st
    rcases List.mem_cons.mp hb with z | z
    · rw [z]
      exact ⟨_, he, fun v q => (by cases q)⟩
    · rw [List.mem_singleton.mp z]
      exact ⟨o, ho, fun v q => (by rw [hd] at q; cases q)⟩
  keep := fun i h h' ⟨⟨old, he⟩, ⟨o, ho, r⟩, hne⟩ k => ⟨⟨old, k e List.mem_cons_self _ he⟩, ⟨o, k it (List.mem_cons_of_mem _ List.mem_cons_self) _ ho, r⟩, hne⟩
  item := by
    intro X hP hw hK hc i pins s σ H E I hf st hg
    subst hP hw hK
    obtain ⟨⟨old, he⟩, hit, hne⟩ := st
    have hh : X.A.in1.handled = none := I.ok.hd hc
    have hel : e < s.heap.objs.size := Heap.lt_size he
    have hil : it < s.heap.objs.size := (let ⟨_, q, _⟩ := hit; Heap.lt_size q)
    refine wpAny_pyNext_enum_itemD (Draws.text hh it x t) he hit hg hne (fun z => hne (List.mem_singleton.mp z)) fun y h' tk hy ho hit' hT hsz hk => ?_
    obtain ⟨c, u, hcx, rfl⟩ := hy
    refine ⟨_, rfl, wpAny_letOwnedTupleGo_enum (s := { s with heap := h', toks := tk + 1 }) ho fun h2 he2 sb => ?_⟩
    have hT2 : h2.get? s.heap.objs.size = some { cls := .type "tuple", data := .seq #[.int i tk, .str ⟨#[c]⟩ u] } := (sb.2 _ (Nat.ne_of_gt hel)).trans hT
    have new : ObjOk X.prog X.w (L2.upd H s.heap.objs.size (.tup [.int (i : Nat), .str ⟨#[c]⟩])) h2 s.heap.objs.size (.tup [.int (i : Nat), .str ⟨#[c]⟩]) :=
      ⟨by show 2 ≤ sizeLine; decide, [.int i tk, .str ⟨#[c]⟩ u], .cons ⟨_, rfl⟩ (.cons ⟨_, rfl⟩ .nil), ⟨_, hT2, rfl, _, rfl⟩⟩
    have I1 : Inv X pins σ (L2.upd H s.heap.objs.size (.tup [.int (i : Nat), .str ⟨#[c]⟩])) { s with heap := h2, toks := tk + 1 } :=
      I.turnedNew (ch := [e, it]) (fun b ob hb q => (sb.2 b fun z => hb (by simp [z])).trans (hk b ob (fun z => hb (by simp [z])) (fun z => hb (by simp [z])) q)) hf (Nat.le_refl _) new
    refine ⟨.ref s.heap.objs.size, _, I1, rfl, ⟨_, c, rfl, I.hok.fresh (Nat.le_refl _), rfl, hcx⟩, ⟨⟨.str ⟨#[c]⟩ u, ?_⟩, ?_, hne⟩, fun b hb => ?_⟩
    · rw [show ((i + 1 : Nat) : Int) = (i : Int) + 1 by omega]
      exact he2
    · obtain ⟨o, q, r⟩ := hit'
      exact ⟨o, (sb.2 it (Ne.symm hne)).trans q, r⟩
    · have hb' : b < s.heap.objs.size := by
        rcases List.mem_cons.mp hb with z | z
        · rw [z]; exact hel
        · rw [List.mem_singleton.mp z]; exact hil
      rw [upd_ne (Nat.ne_of_lt hb')]
      exact (hf b hb).1
  done := by
    intro X hP hw hK hc i pins s σ H E I hf st hg
    subst hP hw hK
    obtain ⟨⟨old, he⟩, hit, hne⟩ := st
    have hh : X.A.in1.handled = none := I.ok.hd hc
    have hg : i = x.cps.size := hg
    subst hg
    exact wpAny_pyNext_enum_endD (Draws.text hh it x t) he hit fun h' eb => ⟨rfl, I.turnedL (t' := s.toks) (ch := [e, it]) (fun b o hb q => eb b o (fun z => hb (by simp [z])) q) hf⟩
  self := fun A i s Q E st h => let ⟨⟨_, he⟩, _⟩ := st; wpAny_pyIter_enum he h
def iEnumS (ta : TA) : TI := fun σ H R => ta σ H fun vs H1 => ∃ x, vs = [.str x] ∧ R (IteS x) H1
theorem pi_enumS {X : Cx} {e : Expr} {ta : TA} {p pos tpos : Pos} {elts : List Expr} {kk : Nat} (hg : Gl X "enumerate") (hm : X.mg "enumerate" = none) (ha : PA X [e] ta) (hs : starEach [e] X.env = [(false, eval e X.env)] := by rfl) :
    PI X (.Tuple elts kk tpos) (.Call (.Name "enumerate" p) [e] [] pos) (iEnumS ta) := by
  refine ⟨fun pins s σ H R I h => ?_⟩
  refine Call_ (ld_blt I hg hm boot_enumerate (PyProof.Rows.callWith_type1 (thn (ha.run pos pins s σ H _ I h) fun us s1 ⟨vs, H1, I1, r1, x, ex, q⟩ => ?_) hs rfl))
  subst ex
  obtain ⟨u, rfl, ru⟩ := vals1 r1
  obtain ⟨t, rfl⟩ := ru
  refine call_enumerate_str fun h' he hit hsz hk => wpAny_pyIter_enum he ?_
  have I2 : Inv X pins σ H1 { s1 with heap := h' } := I1.kept (t' := s1.toks) hk
  refine ⟨s1.heap.objs.size + 1, [s1.heap.objs.size + 1, s1.heap.objs.size], _, _, H1, rfl, I2, turn_enumS (s1.heap.objs.size + 1) s1.heap.objs.size x t, ⟨⟨.none, he⟩, hit, Nat.succ_ne_self _⟩, fun b hb => ?_, q⟩
  have hle : s1.heap.objs.size ≤ b := by
    rcases List.mem_cons.mp hb with z | z
    · rw [z]; exact Nat.le_succ _
    · rw [List.mem_singleton.mp z]; exact Nat.le_refl _
  exact I1.fpOk hle (I1.hok.fresh hle)
end WX
namespace WX
open PySem PySem.Spec PyProof.Rows L2
/-- the cells of a zip over an iterator that has come and a text -/
abbrev zp1 (h : Heap) (x : Str) (t : Tok) : Heap := h.push { cls := .type (strIterType x), data := .fields #[.str x t, .int 0 0] }
abbrev zp2 (h : Heap) (i1 : Addr) (x : Str) (t : Tok) : Heap := (zp1 h x t).push { cls := .type "tuple", data := .seq #[.ref i1, .ref h.objs.size] }
abbrev zp3 (h : Heap) (i1 : Addr) (x : Str) (t : Tok) : Heap := (zp2 h i1 x t).push { cls := .type "tuple", data := .seq #[.none, .none] }
abbrev zp4 (h : Heap) (i1 : Addr) (x : Str) (t : Tok) : Heap := (zp3 h i1 x t).push { cls := .type "zip", data := .fields #[.none, .bool false, .bool false, .ref (zp1 h x t).objs.size, .ref (zp2 h i1 x t).objs.size] }
theorem zip_in {prog : Program} {w : World} (v : Value) (x : Str) (t : Tok) :
    MeetsIn prog w (Builtin.«zip.__new__» ⟨[.type "zip", v, .str x t], []⟩) (fun A R s => wpAny (model prog w) A.in1 (pyIter v) (fun it s1 => ∃ i1, it = .ref i1 ∧
      R (.ok (.ret (.ref (zp3 s1.heap i1 x t).objs.size))) { s1 with heap := zp4 s1.heap i1 x t }) (fun e s' => R (.error e) s') s) :=
  .of_wp fun A R s h => by
    obtain ⟨hp, g, d, tk, os⟩ := s
    have hsub := sub_zip
    have q1 : ∀ {Q : Value → Shared → Prop}, (∀ i1 s1, R (.ok (.ret (.ref (zp3 s1.heap i1 x t).objs.size))) { s1 with heap := zp4 s1.heap i1 x t } → Q (.ref i1) s1) → wpAny (model prog w) A.in1 (pyIter v) Q (fun e s' => R (.error e) s') ⟨hp, g, d, tk, os⟩ :=
      fun k => wpAny_mono h (fun it s1 ⟨i1, e, q⟩ => e ▸ k i1 s1 q) fun _ _ z => z
    wp_walk using q1
    rintro i1 ⟨hp, g, d, tk, os⟩ h2
    have q2 : ∀ {A' : Around} {E : Value → Shared → Prop} {Q : Value → Shared → Prop}, Q (.ref hp.objs.size) ⟨zp1 hp x t, g, d, tk, os⟩ → wpAny (model prog w) A' (pyIter (.str x t)) Q E ⟨hp, g, d, tk, os⟩ :=
      fun q => (begins_text x t).iter prog w _ _ ⟨hp, g, d, tk, os⟩ _ trivial q
    wp_walk using q2
    exact ⟨_, rfl, h2⟩
def ItzO (K : PySem.W.Frag) (l : Addr) (x : Str) : It :=
  ⟨fun i H => ∃ xs v, SqL K H l xs ∧ xs[i]? = some v ∧ i < x.cps.size, fun i H v H' => ∃ T a c, v = .ref T ∧ H T = none ∧ H' = L2.upd H T (.tup [a, .str ⟨#[c]⟩]) ∧ (∀ xs, SqL K H l xs → xs[i]? = some a) ∧ x.cps[i]? = some c, fun i H => ∃ xs : List V, SqL K H l xs ∧ xs.length = i ∧ x.cps.size = i⟩
theorem turn_zipO {P : Program} {w : World} {K : PySem.W.Frag} {elts : List Expr} {kk : Nat} {tp : Pos} {z TI TO i1 i2 l : Addr} (S : ZipSep2 z TI TO i1 i2 [i1, l] [i2]) (hl : l ≠ i1) (x : Str) (t : Tok) :
    Turn P w K (.Tuple elts kk tp) (ItzO K l x) [z, TI, TO, i1, i2] z (fun i h => IsZip h z TI TO .none ∧ IsTupOf2 h TI (.ref i1) (.ref i2) ∧ (∃ a b, IsTupOf2 h TO a b) ∧ h.IsListIter i1 l i ∧ h.IsStrIter i2 (strIterType x) x t i) where
  mem := List.mem_cons_self
  obj := fun i h st c hc => by
    obtain ⟨hz, hTI, ⟨a, b, hTO⟩, ⟨o1, e1, _, d1⟩, ⟨o2, e2, _, d2⟩⟩ := st
    have e' : c = z ∨ c = TI ∨ c = TO ∨ c = i1 ∨ c = i2 := by simpa using hc
    rcases e' with q | q | q | q | q <;> rw [q]
    · exact ⟨_, hz, fun v q => (by cases q)⟩
    · exact ⟨_, hTI, fun v q => (by cases q)⟩
    · exact ⟨_, hTO, fun v q => (by cases q)⟩
    · exact ⟨o1, e1, fun v q => (by rw [d1] at q; cases q)⟩
    · exact ⟨o2, e2, fun v q => (by rw [d2] at q; cases q)⟩
  keep := fun i h h' st k => by
    obtain ⟨hz, hTI, ⟨a, b, hTO⟩, ⟨o1, e1, r1⟩, ⟨o2, e2, r2⟩⟩ := st
    exact ⟨k z (by simp) _ hz, k TI (by simp) _ hTI, ⟨a, b, k TO (by simp) _ hTO⟩, ⟨o1, k i1 (by simp) _ e1, r1⟩, ⟨o2, k i2 (by simp) _ e2, r2⟩⟩
  item := by
    intro X hP hw hK hc i pins s σ H E I hf st hg
    subst hP hw hK
    obtain ⟨hz, hTI, ⟨a, b, hTO⟩, h1, h2⟩ := st
    obtain ⟨xs, v, hq, hx, hlt⟩ := hg
    obtain ⟨its, rv, p, _⟩ := I.list hq
    obtain ⟨u, hu, ru⟩ := rv.get hx
    have hu' : its.toArray[i]? = some u := by rw [List.getElem?_toArray]; exact hu
    have hh : X.A.in1.handled = none := I.ok.hd hc
    have hzl : z < s.heap.objs.size := Heap.lt_size hz
    have l1 : i1 < s.heap.objs.size := (let ⟨_, q, _⟩ := h1; Heap.lt_size q)
    have l2 : i2 < s.heap.objs.size := (let ⟨_, q, _⟩ := h2; Heap.lt_size q)
    have hlt1 : i < its.toArray.size := (Array.getElem?_eq_some_iff.mp hu').1
    refine wpAny_pyNext_zipD2_item S (Draws.list hh i1 l hl its.toArray) (Draws.text hh i2 x t) hz hTI hTO ⟨h1, p.isList⟩ h2 hlt1 hlt fun x1 x2 h' tk y1 y2 b1 b2 d1 d2 b5 b6 hk => ?_
    obtain ⟨c, t2, hcx, rfl⟩ := y2
    rw [hu'] at y1
    obtain rfl := Option.some.inj y1
    refine ⟨_, rfl, wpAny_letOwnedTupleGo_zip (s := { s with heap := h', toks := tk }) b1 fun g hz2 sb => ?_⟩
    have hT2 : g.get? s.heap.objs.size = some { cls := .type "tuple", data := .seq #[u, .str ⟨#[c]⟩ t2] } := (sb.2 _ (Nat.ne_of_gt hzl)).trans b5
    have new : ObjOk X.prog X.w (L2.upd H s.heap.objs.size (.tup [v, .str ⟨#[c]⟩])) g s.heap.objs.size (.tup [v, .str ⟨#[c]⟩]) :=
      ⟨by show 2 ≤ sizeLine; decide, [u, .str ⟨#[c]⟩ t2], .cons ru (.cons ⟨_, rfl⟩ .nil), ⟨_, hT2, rfl, _, rfl⟩⟩
    have I1 : Inv X pins σ (L2.upd H s.heap.objs.size (.tup [v, .str ⟨#[c]⟩])) { s with heap := g, toks := tk } :=
      I.turnedNew (ch := [z, TI, TO, i1, i2]) (fun c o hb q => (sb.2 c fun q' => hb (by simp [q'])).trans (hk c o (fun q' => hb (by simp [q'])) (fun q' => hb (by simp [q'])) (fun q' => hb (by simp [q'])) (fun q' => hb (by simp [q'])) q)) hf (Nat.le_refl _) new
    refine ⟨.ref s.heap.objs.size, _, I1, rfl, ⟨_, v, c, rfl, I.hok.fresh (Nat.le_refl _), rfl, fun ys hy => by rw [I.list_inj hy hq]; exact hx, hcx⟩, ⟨hz2, ?_, ⟨u, .str ⟨#[c]⟩ t2, ?_⟩, ?_, ?_⟩, fun c hcm => ?_⟩
    · exact (sb.2 _ S.TIz).trans (hk _ _ S.TIz S.TITO S.TIi1 S.TIi2 hTI)
    · exact (sb.2 _ S.TOz).trans b2
    · obtain ⟨⟨o, e, r⟩, _⟩ := d1
      exact ⟨o, (sb.2 _ S.zi1.symm).trans e, r⟩
    · obtain ⟨o, e, r⟩ := d2
      exact ⟨o, (sb.2 _ S.zi2.symm).trans e, r⟩
    · have hlt : c < s.heap.objs.size := by
        have e' : c = z ∨ c = TI ∨ c = TO ∨ c = i1 ∨ c = i2 := by simpa using hcm
        rcases e' with q | q | q | q | q <;> rw [q]
        · exact hzl
        · exact Heap.lt_size hTI
        · exact Heap.lt_size hTO
        · exact l1
        · exact l2
      rw [upd_ne (Nat.ne_of_lt hlt)]
      exact (hf c hcm).1
  done := by
    intro X hP hw hK hc i pins s σ H E I hf st hg
    subst hP hw hK
    obtain ⟨hz, hTI, ⟨a, b, hTO⟩, h1, h2⟩ := st
    obtain ⟨xs, hq, e1, e2⟩ := hg
    obtain ⟨its, rv, p, _⟩ := I.list hq
    have hh : X.A.in1.handled = none := I.ok.hd hc
    have hn : its.toArray.size = i := by rw [List.size_toArray, ← rv.length, e1]
    exact wpAny_pyNext_zipD2_end S (Draws.list hh i1 l hl its.toArray) (Draws.text hh i2 x t) hz hTI hTO ⟨h1, p.isList⟩ h2 (Nat.le_of_eq hn.symm) (Nat.le_of_eq e2.symm) (.inl hn.symm) fun h' tk hk => ⟨rfl, I.turnedL (t' := tk) (ch := [z, TI, TO, i1, i2]) (fun c o hb q =>
      hk c o (fun q' => hb (by simp [q'])) (fun q' => hb (by simp [q'])) (fun q' => hb (by simp [q'])) (fun q' => hb (by simp [q'])) q) hf⟩
  self := fun A i s Q E st h => wpAny_pyIter_zip st.1 h
theorem zsep (N i1 l : Nat) (h1 : i1 < N) (h2 : l < N) (h3 : l ≠ i1) : ZipSep2 (N + 3) (N + 1) (N + 2) i1 N [i1, l] [N] := by
  have two : ∀ x y z : Nat, x ≠ y → x ≠ z → (show Addr from x) ∉ ([y, z] : List Addr) := fun x y z a b h => by
    have h : x = y ∨ x = z := by simpa using h
    omega
  have one : ∀ x y : Nat, x ≠ y → (show Addr from x) ∉ ([y] : List Addr) := fun x y a h => a (List.mem_singleton.mp h)
  exact
  { TIz := show (N + 1 : Nat) ≠ N + 3 by omega, TOz := show (N + 2 : Nat) ≠ N + 3 by omega, TITO := show (N + 1 : Nat) ≠ N + 2 by omega, TIi1 := show (N + 1 : Nat) ≠ i1 by omega, mem1 := List.mem_cons_self
    zf1 := two (N + 3) i1 l (by omega) (by omega), Tf1 := two (N + 2) i1 l (by omega) (by omega), TIi2 := show (N + 1 : Nat) ≠ N by omega, mem2 := List.mem_cons_self
    zf2 := one (N + 3) N (by omega), Tf2 := one (N + 2) N (by omega), sep1_2 := one i1 N (by omega), sep2_1 := two N i1 l (by omega) (by omega) }
/-- for a, c in zip(o, text) -/
def iZipO (C : Addr) (K : PySem.W.Frag) (R : Addr → Addr → Hp → Prop) (ta : TA) : TI := fun σ H S => ta σ H fun vs H1 => ∃ a dx fs l zs x, vs = [.ref a, .str x] ∧ H1 a = some (.ins C dx fs) ∧ R a l H1 ∧ SqL K H1 l zs ∧ (∃ o, H1 l = some o) ∧ S (ItzO K l x) H1
theorem pi_zipO {X : Cx} {CX : CXT} {n : Nat} {C f : Addr} {fd : FuncData} {ps : List Str} {E : XK} {R : Addr → Addr → Hp → Prop} {e e2 : Expr} {ta : TA} {p pos tpos : Pos} {elts : List Expr} {kk : Nat} (S : Sm X.K C "__iter__" f) (F : FnOkS X.prog X.w X.K X.mg X.base CX n f fd ps (spIter X.K R)) (hr : Room (n + 3) X.A) (hb : Binds X.K fd ps []) (hx : Passes CX X E)
    (hg : Gl X "zip") (hm : X.mg "zip" = none) (ha : PA X [e, e2] ta)
    (hs : starEach [e, e2] X.env = (false, eval e X.env) :: starEach [e2] X.env := by rfl) (hpl : (backTo pos (starEach [e2] X.env)).any (·.1) = false := by rfl) :
    PI X (.Tuple elts kk tpos) (.Call (.Name "zip" p) [e, e2] [] pos) (iZipO C X.K R ta) := by
  refine ⟨fun pins s σ H Q I h => ?_⟩
  refine Call_ (ld_blt I hg hm PyProof.Rows.boot_zip (PyProof.Rows.callWith_type1 (thn (ha.run pos pins s σ H _ I h) fun us s1 ⟨vs, H1, I1, r1, a, dx, fs, l, zs, x, ex, ea, hR, hz, ⟨ol, hol⟩, q⟩ => ?_) hs hpl))
  subst ex
  obtain ⟨u1, u2, rfl, ru1, ru2⟩ := vals2 r1
  cases ru1
  obtain ⟨t, rfl⟩ := ru2
  have sb : Sub X n X.A.in1.in1 := (Sub.in1 (Sub.in1 (⟨hr.mono (by omega), rfl⟩ : Sub X (n + 2) X.A)))
  refine callType_newIn PySem.F.called_zip (by decide) (PySem.F.typeCall_zip_2 _ _) (PySem.F.newCall_zip_2 _ _) (fun obj => PySem.F.args_object_init_3 obj _ _) PySem.F.entry_zip_new (zip_in (.ref a) x t) ?_
  refine wpAny_mono (iter_own S F sb hb hx I1 ea hR hz fun i1 s2 I2 k o hn => ?_) (fun _ _ z => z) fun _ _ z => ?_
  · have hl : l ≠ i1 := fun z => by rw [z, hn] at hol; cases hol
    have l1 : i1 < s2.heap.objs.size := Heap.lt_size o
    have ll : l < s2.heap.objs.size := (I2.hok l _ hol).lt
    have z1 : (zp1 s2.heap x t).objs.size = s2.heap.objs.size + 1 := Heap.size_push ..
    have z2 : (zp2 s2.heap i1 x t).objs.size = s2.heap.objs.size + 2 := by rw [Heap.size_push, z1]
    have z3 : (zp3 s2.heap i1 x t).objs.size = s2.heap.objs.size + 3 := by rw [Heap.size_push, z2]
    have kp : ∀ b u, s2.heap.get? b = some u → (zp4 s2.heap i1 x t).get? b = some u := fun b u q => Heap.get?_push_of_some _ (Heap.get?_push_of_some _ (Heap.get?_push_of_some _ (Heap.get?_push_of_some _ q)))
    have gz : IsZip (zp4 s2.heap i1 x t) (s2.heap.objs.size + 3) (s2.heap.objs.size + 1) (s2.heap.objs.size + 2) .none := by
      have g := Heap.get?_push_size (zp3 s2.heap i1 x t) (o := { cls := .type "zip", data := .fields #[.none, .bool false, .bool false, .ref (zp1 s2.heap x t).objs.size, .ref (zp2 s2.heap i1 x t).objs.size] }) rfl
      rw [z3] at g
      rw [show (zp4 s2.heap i1 x t) = (zp3 s2.heap i1 x t).push { cls := .type "zip", data := .fields #[.none, .bool false, .bool false, .ref (zp1 s2.heap x t).objs.size, .ref (zp2 s2.heap i1 x t).objs.size] } from rfl]
      unfold IsZip
      rw [g, z1, z2]
    have gO : IsTupOf2 (zp4 s2.heap i1 x t) (s2.heap.objs.size + 2) .none .none := by
      have g := Heap.get?_push_size (zp2 s2.heap i1 x t) (o := { cls := .type "tuple", data := .seq #[.none, .none] }) rfl
      rw [z2] at g
      exact Heap.get?_push_of_some _ g
    have gT : IsTupOf2 (zp4 s2.heap i1 x t) (s2.heap.objs.size + 1) (.ref i1) (.ref s2.heap.objs.size) := by
      have g := Heap.get?_push_size (zp1 s2.heap x t) (o := { cls := .type "tuple", data := .seq #[.ref i1, .ref s2.heap.objs.size] }) rfl
      rw [z1] at g
      exact Heap.get?_push_of_some _ (Heap.get?_push_of_some _ g)
    have g2 : (zp4 s2.heap i1 x t).IsStrIter s2.heap.objs.size (strIterType x) x t 0 :=
      ⟨_, Heap.get?_push_of_some _ (Heap.get?_push_of_some _ (Heap.get?_push_of_some _ (Heap.get?_push_size _ rfl))), rfl, rfl⟩
    have I3 : Inv X pins σ H1 { s2 with heap := zp4 s2.heap i1 x t } := I2.kept (t' := s2.toks) kp
    refine ⟨i1, rfl, ?_⟩
    rw [z3]
    refine ⟨⟨_, gz, rfl⟩, wpAny_pyIter_zip gz ?_⟩
    have sep := zsep s2.heap.objs.size i1 l l1 ll hl
    refine ⟨_, [s2.heap.objs.size + 3, s2.heap.objs.size + 1, s2.heap.objs.size + 2, i1, s2.heap.objs.size], _, _, H1, rfl, I3, turn_zipO sep hl x t, ⟨gz, gT, ⟨_, _, gO⟩, ⟨_, kp _ _ o, rfl, rfl⟩, g2⟩, fun b hb => ?_, q⟩
    have e' : b = i1 ∨ s2.heap.objs.size ≤ b := by
      have : b = s2.heap.objs.size + 3 ∨ b = s2.heap.objs.size + 1 ∨ b = s2.heap.objs.size + 2 ∨ b = i1 ∨ b = s2.heap.objs.size := by simpa using hb
      rcases this with z | z | z | z | z
      · exact .inr (by rw [z]; exact Nat.le_add_right _ _)
      · exact .inr (by rw [z]; exact Nat.le_add_right _ _)
      · exact .inr (by rw [z]; exact Nat.le_add_right _ _)
      · exact .inl z
      · exact .inr (Nat.le_of_eq z.symm)
    rcases e' with z | z
    · rw [z]; exact k
    · exact I2.fpOk z (I2.hok.fresh z)
  · exact z
end WX
namespace WX
open PySem PySem.Spec PyProof.Rows L2
/-! ### sets whose members are tuples of numbers and texts -/
abbrev kh (P : Program) (w : World) (k : List Key) : Int := tupleKeyHash (mixKind P w) k
abbrev IsK (P : Program) (w : World) (h : Heap) (k : List Key) (a : Addr) : Prop := IsTupleKey (mixKind P w) h k a
section
variable {P : Program} {w : World} {A : Around} {E : Value → Shared → Prop} {s : Shared}
/-- numbers and texts -/
def Plain (v : Value) : Prop := (∃ i t, v = Value.int i t) ∨ ∃ x t, v = Value.str x t
theorem plain_items {k : List Key} {vs : List Value} (h : ItemsAre (mixKind P w) k vs) : ∀ v ∈ vs, Plain v := by
  induction h with
  | nil => exact fun v hv => nomatch hv
  | @cons k0 v0 ks vs h1 _ ih =>
    refine fun v hv => (List.mem_cons.mp hv).elim (fun e => ?_) (ih v)
    rcases keyIs_shape h1 with ⟨i, t, _, e2⟩ | ⟨x, t, _, e2⟩
    · exact .inl ⟨i, t, e.trans e2⟩
    · exact .inr ⟨x, t, e.trans e2⟩
theorem Plain.cls {v : Value} (h : Plain v) (n : Nat) : ofAClassStatement n v = pure false := by
  rcases h with ⟨_, _, rfl⟩ | ⟨_, _, rfl⟩ <;> cases n <;> rfl
theorem Plain.hash {v : Value} (h : Plain v) (n : Nat) : ∃ b, hashByValue n v = pure b := by
  rcases h with ⟨_, _, rfl⟩ | ⟨_, _, rfl⟩
  · exact ⟨true, by cases n <;> rfl⟩
  · exact ⟨false, by cases n <;> rfl⟩
theorem cls_tup {k : List Key} {b : Addr} {Q : Bool → Shared → Prop} (hk : IsK P w s.heap k b) (h : Q false s) : wpAny (model P w) A (ofAClassStatement 8 (.ref b)) Q E s := by
  have hT := hk.typeIs
  obtain ⟨o, items, n, ho, _, hd, hi⟩ := hk
  unfold ofAClassStatement
  refine wpAny_bind (wpAny_typeOf hT ?_)
  dsimp only
  simp only [show (("tuple" : String) == "tuple") = true by decide, if_true, Bool.not_true, Bool.false_eq_true, if_false]
  try refine wpAny_bind (wpAny_pure ?_)
  show wpAny _ _ (seqItems? (.ref b) >>= _) _ _ s
  refine wpAny_bind (wpAny_seqItems ho hd ?_)
  dsimp only
  refine wpAny_bind ?_
  show wpAny _ _ (forIn items _ _) _ _ s
  rw [← Array.forIn_toList]
  refine wpAny_forIn_list _ (fun rest r s' => r.1 = none ∧ s' = s ∧ ∀ v ∈ rest, Plain v) _ (fun v rest r s' ⟨hr, es, hall⟩ => ?_) (fun r s' ⟨hr, es, _⟩ => ?_) _ _ ⟨rfl, rfl, plain_items hi⟩
  · rw [(hall v List.mem_cons_self).cls]
    refine wpAny_bind (wpAny_pure ?_)
    simp only [Bool.false_eq_true, if_false]
    exact wpAny_pure ⟨rfl, es, fun u hu => hall u (List.mem_cons_of_mem _ hu)⟩
  · obtain ⟨r1, r2⟩ := r
    simp only at hr
    subst hr es
    exact wpAny_pure h
theorem hash_tup {k : List Key} {b : Addr} {Q : Bool → Shared → Prop} (hk : IsK P w s.heap k b) (h : ∀ r, Q r s) : wpAny (model P w) A (hashByValue 8 (.ref b)) Q E s := by
  have hT := hk.typeIs
  obtain ⟨o, items, n, ho, _, hd, hi⟩ := hk
  unfold hashByValue
  refine wpAny_bind (wpAny_specialOf hT F.slot_tuple_hash.lookup ?_)
  show wpAny _ _ (seqItems? (.ref b) >>= _) _ _ s
  refine wpAny_bind (wpAny_seqItems ho hd (wpAny_bind ?_))
  show wpAny _ _ (forIn items _ _) _ _ s
  rw [← Array.forIn_toList]
  refine wpAny_forIn_list _ (fun rest r s' => (r.1 = none ∨ r.1 = some false) ∧ s' = s ∧ ∀ v ∈ rest, Plain v) _ (fun v rest r s' ⟨hr, es, hall⟩ => ?_) (fun r s' ⟨hr, es, _⟩ => ?_) _ _ ⟨.inl rfl, rfl, plain_items hi⟩
  · obtain ⟨c, hc⟩ := (hall v List.mem_cons_self).hash 7
    rw [hc]
    refine wpAny_bind (wpAny_pure ?_)
    cases c with
    | true =>
      simp only [Bool.not_true, Bool.false_eq_true, if_false]
      exact wpAny_pure ⟨.inl rfl, es, fun u hu => hall u (List.mem_cons_of_mem _ hu)⟩
    | false =>
      simp only [Bool.not_false, if_true]
      subst es
      exact wpAny_pure (wpAny_pure (h _))
  · obtain ⟨r1, r2⟩ := r
    simp only at hr
    subst es
    rcases hr with rfl | rfl
    · exact wpAny_pure (h _)
    · exact wpAny_pure (h _)
/-- nothing is seen of a search among tuples -/
theorem quiet_tup {k : List Key} {b : Addr} {Q : Bool → Shared → Prop} (hk : IsK P w s.heap k b) {ys : List Value} (hy : ∀ y ∈ ys, ∃ k' c, y = Value.ref c ∧ IsK P w s.heap k' c) (h : Q false s) :
    wpAny (model P w) A (searchCouldBeSeen (.ref b) ys) Q E s := by
  unfold searchCouldBeSeen
  refine wpAny_bind (wpAny_forIn_list _ (fun rest r s' => r.1 = none ∧ s' = s ∧ ∀ y ∈ rest, ∃ k' c, y = Value.ref c ∧ IsK P w s.heap k' c) _ (fun v rest r s' ⟨hr, es, hall⟩ => ?_) (fun r s' ⟨hr, es, _⟩ => ?_) _ _ ⟨rfl, rfl, hy⟩)
  · subst es
    obtain ⟨k', c, rfl, hc⟩ := hall v List.mem_cons_self
    have more : ∀ y ∈ rest, ∃ k' c, y = Value.ref c ∧ IsK P w s'.heap k' c := fun u hu => hall u (List.mem_cons_of_mem _ hu)
    dsimp only
    by_cases hv : (b == c || (carriedByValue (.ref b) && carriedByValue (.ref c))) = true
    · exact wp_if_pos hv (wpAny_pure ⟨rfl, rfl, more⟩)
    · refine wp_if_neg hv (wpAny_bind (wpAny_eqIsQuiet_tuple hk ?_))
      simp only [Bool.not_true, Bool.false_eq_true, if_false]
      refine wpAny_bind (wpAny_eqIsQuiet_tuple hc ?_)
      simp only [Bool.not_true, Bool.false_eq_true, if_false]
      refine wpAny_bind (cls_tup hk ?_)
      simp only [Bool.false_eq_true, if_false]
      refine wpAny_bind (cls_tup hc ?_)
      simp only [Bool.false_eq_true, if_false]
      exact wpAny_pure ⟨rfl, rfl, more⟩
  · obtain ⟨r1, r2⟩ := r
    simp only at hr
    subst hr es
    exact wpAny_pure h
end
/-! ### the table of such a set -/
def rowsK (P : Program) (w : World) (L : List (Addr × List Key)) : List (Int × Value) := L.map fun p => (kh P w p.2, Value.ref p.1)
structure TabK (P : Program) (w : World) (h : Heap) (a : Addr) (L : List (Addr × List Key)) (es : Array (Int × Value)) (ep : Nat) (t : SetTable) : Prop where
  ob : ∃ o, h.get? a = some o ∧ o.ExactSet ∧ o.data = .set es ep t
  rows : es.toList = rowsK P w L
  tab : TabOk t (L.map fun p => kh P w p.2)
  tup : ∀ p ∈ L, IsK P w h p.2 p.1
  room : L.length * 5 < t.mask * 3
  few : L.length < 64
section
variable {P : Program} {w : World} {A : Around} {E : Value → Shared → Prop} {s : Shared} {a : Addr} {L : List (Addr × List Key)} {es : Array (Int × Value)} {ep : Nat} {t : SetTable}
theorem rowsK_size (h : es.toList = rowsK P w L) : es.size = L.length := by
  rw [← Array.length_toList, h]
  exact List.length_map _
theorem rowsK_get (hr : es.toList = rowsK P w L) {i : Nat} {p : Addr × List Key} (h : L[i]? = some p) : es[i]? = some (kh P w p.2, Value.ref p.1) := by
  rw [← Array.getElem?_toList, hr, rowsK, List.getElem?_map, h]
  rfl
theorem fits_of {n : Nat} (h1 : t.place.size = n) (h2 : t.dummies = #[]) (h3 : n ≤ t.mask) : t.fits n = true := by
  unfold SetTable.fits SetTable.fill
  rw [h2, Bool.and_eq_true, beq_iff_eq, decide_eq_true_eq]
  exact ⟨h1, by show t.place.size + 0 ≤ t.mask; omega⟩
theorem TabK.psz (R : TabK P w s.heap a L es ep t) : t.place.size = L.length := by
  rw [R.tab.sz, List.length_map]
theorem TabK.fits (R : TabK P w s.heap a L es ep t) : t.fits es.size = true := by
  have h1 := R.psz
  have h2 := rowsK_size R.rows
  have h3 := R.room
  exact fits_of (by omega) R.tab.dm (by omega)
theorem TabK.gw (R : TabK P w s.heap a L es ep t) : ¬ t.gaveWay = true := by
  unfold SetTable.gaveWay
  rw [mask_odd R.tab.mok]
  decide
/-- looked for among others -/
theorem free_from (R : TabK P w s.heap a L es ep t) {x : Addr} {k : List Key} (hx : IsK P w s.heap k x) (hu : A.units < cLine) (hn : k ∉ L.map (·.2)) {K : Nat} (hKf : K < 10 * SetTable.turns t.mask)
    (hK : way t.mask (kh P w k) K ∉ t.place.toList) (hKb : ∀ c, c < K → way t.mask (kh P w k) c ∈ t.place.toList) (adding : Bool) {Q : SetFound → Shared → Prop} (hQ : Q (.free (way t.mask (kh P w k) K) false) s) :
    ∀ (f c : Nat) (st : Option SetTable.Probe), st.getD (t.probeStart (kh P w k)) = nth t.mask (runAt t.mask (SetTable.bits (kh P w k) % (t.mask + 1)) (SetTable.bits (kh P w k))) c → c ≤ K → K - c < f → wpAny (model P w) A (setSearchFrom a (.ref x) (kh P w k) adding f st) Q E s := by
  intro f
  induction f with
  | zero => exact fun c st _ _ hf => absurd hf (Nat.not_lt_zero _)
  | succ f ih =>
    intro c st hst hc hf
    obtain ⟨o, ho, hex, hd⟩ := R.ob
    rw [setSearchFrom_succ]
    refine wpAny_bind (wpAny_setState_of ho hd R.fits ?_)
    dsimp only
    refine wp_if_neg R.gw ?_
    try refine wpAny_bind (wpAny_pure ?_)
    generalize hp0 : runAt t.mask (SetTable.bits (kh P w k) % (t.mask + 1)) (SetTable.bits (kh P w k)) = p0 at hst
    have hw : ∀ q, way t.mask (kh P w k) q = (nth t.mask p0 q).j := fun q => by rw [← hp0]
    have sh : ∀ q, nth t.mask (nth t.mask p0 c) q = nth t.mask p0 (c + q) := fun q => (nth_add t.mask c _ q).symm
    have hnd : (nth t.mask p0 c).dummy = none := by
      have key : ∀ (n : Nat) (p : SetTable.Probe), p.dummy = none → (nth t.mask p n).dummy = none := by
        intro n
        induction n with
        | zero => exact fun p h => h
        | succ n ih => exact fun p h => ih (adv t.mask p) (by unfold adv; split <;> exact h)
      exact key c _ (by rw [← hp0]; rfl)
    have e1 : ∀ q, (nth t.mask (nth t.mask p0 c) q).j = way t.mask (kh P w k) (c + q) := fun q => by rw [sh, hw]
    have spec := go_spec t R.tab.ris R.tab.dm (fun i => (es[i]?.map (·.1)).getD 0) (kh P w k) (10 * SetTable.turns t.mask) (K - c) _ hnd (by omega) (fun q hq => by rw [e1]; exact hKb (c + q) (by omega)) (by rw [e1, show c + (K - c) = K by omega]; exact hK)
    rcases spec with ⟨q, i, hq, hi, hh, _, hpr⟩ | ⟨_, hpr⟩
    · rw [e1] at hi
      have pr : t.probe (fun i => (es[i]?.map (·.1)).getD 0) (kh P w k) (st.getD (t.probeStart (kh P w k))) = some (.candidate (way t.mask (kh P w k) (c + q)) i (nth t.mask p0 (c + (q + 1)))) := by
        rw [hst, ← e1, ← sh]
        exact hpr
      rw [pr]
      dsimp only
      have hil : i < L.length := by
        have h1 := (List.getElem?_eq_some_iff.mp hi).1
        rw [Array.length_toList, R.psz] at h1
        exact h1
      have hp : L[i]? = some L[i] := List.getElem?_eq_getElem hil
      generalize L[i] = p at hp
      have hm : p ∈ L := List.mem_of_getElem? hp
      have hpt := R.tup p hm
      have hne : ¬ p.2 = k := fun z => hn (List.mem_map.mpr ⟨p, hm, z⟩)
      have sl : t.slot (way t.mask (kh P w k) (c + q)) = .live i := slot_live R.tab.ris hi
      have rest : wpAny (model P w) A (searchRest a (.ref x) (kh P w k) adding f es t (way t.mask (kh P w k) (c + q)) i (nth t.mask p0 (c + (q + 1)))) Q E s := by
        unfold searchRest
        rw [rowsK_get R.rows hp]
        dsimp only
        refine wpAny_bind (wpAny_holding (wpAny_eqBool_tuple hu hpt hx (wpAny_bind (wpAny_setState_of ho hd R.fits ?_))))
        dsimp only
        refine wp_if_neg (by simp [hne]) ?_
        try refine wpAny_bind (wpAny_pure ?_)
        rw [sameMem]
        dsimp only
        simp only [if_true, sl, rowsK_get R.rows hp]
        refine wpAny_bind (wpAny_isSame_ref_self (wpAny_bind (wpAny_pure ?_)))
        simp only [if_true]
        refine wp_if_neg (by simp [hne]) ?_
        exact ih (c + (q + 1)) _ (by rw [← hp0]; rfl) (by omega) (by omega)
      by_cases hl : t.led = true
      · refine wp_if_neg (by simp [hl]) ?_
        try refine wpAny_bind (wpAny_pure ?_)
        exact rest
      · refine wp_if_pos (by simp [hl]) (wpAny_bind (quiet_tup hx (fun y hy => ?_) ?_))
        · obtain ⟨e, he, rfl⟩ := List.mem_map.mp hy
          have he : e ∈ es.toList := (by simpa using he : e ∈ es ∧ _).1 |> fun z => by simpa using z
          rw [R.rows] at he
          obtain ⟨p2, hp2, rfl⟩ := List.mem_map.mp he
          exact ⟨p2.2, p2.1, rfl, R.tup p2 hp2⟩
        · refine wp_if_neg (by decide) ?_
          try refine wpAny_bind (wpAny_pure ?_)
          exact rest
    · have pr : t.probe (fun i => (es[i]?.map (·.1)).getD 0) (kh P w k) (st.getD (t.probeStart (kh P w k))) = some (.empty (way t.mask (kh P w k) K) none) := by
        have e2 : way t.mask (kh P w k) K = (nth t.mask (nth t.mask p0 c) (K - c)).j := by rw [e1, show c + (K - c) = K by omega]
        rw [hst, e2]
        exact hpr
      rw [pr]
      dsimp only
      exact wpAny_pure hQ
theorem free_at (R : TabK P w s.heap a L es ep t) {x : Addr} {k : List Key} (hx : IsK P w s.heap k x) (hu : A.units < cLine) (hn : k ∉ L.map (·.2)) (adding : Bool) {Q : SetFound → Shared → Prop}
    (hQ : ∀ K, way t.mask (kh P w k) K ∉ t.place.toList → (∀ c, c < K → way t.mask (kh P w k) c ∈ t.place.toList) → Q (.free (way t.mask (kh P w k) K) false) s) : wpAny (model P w) A (setSearch a (.ref x) (kh P w k) adding) Q E s := by
  have hroom := R.room
  obtain ⟨K, hKf, hK, hKb⟩ := R.tab.first (by rw [List.length_map]; omega) (kh P w k)
  have hbig : K < 100000 := by
    have h : 10 * SetTable.turns t.mask ≤ 1420 := by
      unfold SetTable.turns
      rcases R.tab.mok with e | e | e <;> omega
    omega
  exact free_from R hx hu hn hKf hK hKb adding (hQ K hK hKb) 100000 0 none rfl (Nat.zero_le _) (by omega)
/-! ### laid anew, added -/
theorem isK_same {h h' : Heap} {k : List Key} {a b : Addr} {o : Obj} {es : Array (Int × Value)} {ep : Nat} {t : SetTable} (hb : IsK P w h k b) (ho : h.get? a = some o) (hd : o.data = .set es ep t) (hs : Heap.SameBut a h h') : IsK P w h' k b := by
  obtain ⟨o', items, n, ho', hc, hd', hi⟩ := hb
  refine ⟨o', items, n, (hs.2 b fun z => ?_).trans ho', hc, hd', hi⟩
  rw [z, ho] at ho'
  rw [Option.some.inj ho'] at hd
  rw [hd] at hd'
  cases hd'
theorem order_rowsK (L : List (Addr × List Key)) (es : Array (Int × Value)) (order : Array Nat) (hr : es.toList = rowsK P w L) (hp : order.toList.Perm (List.range L.length)) :
    ∃ L2, (order.filterMap (es[·]?)).toList = rowsK P w L2 ∧ L2.Perm L ∧ (L2.map fun p => kh P w p.2) = order.toList.map fun i => (es.map (·.1)).getD i 0 := by
  have key : ∀ l : List Nat, (∀ i ∈ l, i < L.length) → l.filterMap (fun i => es[i]?) = rowsK P w (l.filterMap fun i => L[i]?) ∧ ((l.filterMap fun i => L[i]?).map fun p => kh P w p.2) = l.map fun i => (es.map (·.1)).getD i 0 := by
    intro l
    induction l with
    | nil => exact fun _ => ⟨rfl, rfl⟩
    | cons i l ih =>
      intro hl
      have hi := hl i List.mem_cons_self
      obtain ⟨e1, e3⟩ := ih fun j hj => hl j (List.mem_cons_of_mem _ hj)
      have hL : L[i]? = some L[i] := List.getElem?_eq_getElem hi
      have hE := rowsK_get hr hL
      have e5 : (es.map (·.1))[i]? = some (kh P w (L[i]).2) := by rw [Array.getElem?_map, hE]; rfl
      refine ⟨?_, ?_⟩
      · rw [List.filterMap_cons_some hE, List.filterMap_cons_some hL, e1]
        rfl
      · rw [List.filterMap_cons_some hL, List.map_cons, List.map_cons, e3, Array.getD_eq_getD_getElem?, e5]
        rfl
  obtain ⟨e1, e3⟩ := key order.toList fun i hi => List.mem_range.mp (hp.mem_iff.mp hi)
  refine ⟨_, by first | (rw [Array.toList_filterMap]; exact e1) | simpa using e1, (hp.filterMap _).trans ?_, e3⟩
  have all : ∀ n, n ≤ L.length → (List.range n).filterMap (fun i => L[i]?) = L.take n := by
    intro n
    induction n with
    | zero => exact fun _ => rfl
    | succ n ih =>
      intro hn
      rw [List.range_succ, List.filterMap_append, ih (Nat.le_of_lt hn), List.take_succ, List.getElem?_eq_getElem hn, List.filterMap_cons_some (List.getElem?_eq_getElem hn)]
      rfl
  rw [all L.length (Nat.le_refl _), List.take_length]
theorem relay_K {o : Obj} (ho : s.heap.get? a = some o) (hex : o.ExactSet) (hd : o.data = .set es ep t) (hr : es.toList = rowsK P w L) (hsz : t.place.size = es.size) (hdm : t.dummies = #[]) (hfl : es.size ≤ t.mask)
    (tup : ∀ p ∈ L, IsK P w s.heap p.2 p.1) (few : L.length < 64) {wanted M : Nat} (hw : SetTable.sizeAbove wanted - 1 = M) (hM : MaskOk M) (hw2 : SetTable.sizeAbove wanted ≤ 128) (hn : L.length * 5 < M * 3) {Q : Unit → Shared → Prop}
    (hQ : ∀ h' L' es' ep' t', Heap.SameBut a s.heap h' → TabK P w h' a L' es' ep' t' → L'.Perm L → Q () { s with heap := h' }) : wpAny (model P w) A (setRelay a wanted) Q E s := by
  have hsl := rowsK_size hr
  obtain ⟨t', order, e, hp, T, em, _, _, _⟩ := relaid_ok t (hs := es.map (·.1)) (wanted := wanted) hw hM (by rw [Array.size_map, hsl]; omega)
  rw [Array.size_map, hsl] at hp
  obtain ⟨L2, r1, r2, r3⟩ := order_rowsK L es order hr hp
  rw [← r3] at T
  have hs2 : (order.filterMap (es[·]?)).size = es.size := by rw [rowsK_size r1, r2.length_eq, hsl]
  rw [setRelay_eq]
  refine wpAny_bind (wpAny_setState_of ho hd (fits_of hsz hdm hfl) ?_)
  dsimp only
  refine wp_if_neg (by rw [sizeLine_eq]; omega) ?_
  try refine wpAny_bind (wpAny_pure ?_)
  rw [e]
  dsimp only
  refine wpAny_bind (wp_if_neg (by rw [hs2]; simp) ?_)
  try refine wpAny_bind (wpAny_pure ?_)
  refine wpAny_pure ?_
  dsimp only
  refine wpAny_storeSet_of ho hd ?_ (by rw [hs2, hsl, sizeLine_eq]; omega)
  have sb : Heap.SameBut a s.heap (s.heap.update a (Obj.putSet (order.filterMap (es[·]?)) t')) := Heap.SameBut.update ..
  exact hQ _ L2 (order.filterMap (es[·]?)) (ep + 1) t' sb ⟨⟨_, store_at ho hd, ⟨hex.1, hex.2.1, hex.2.2⟩, rfl⟩, r1, T, fun p hpm => isK_same (tup p (r2.mem_iff.mp hpm)) ho hd sb, by rw [r2.length_eq, em]; exact hn, by rw [r2.length_eq]; exact few⟩ r2
theorem add_K (R : TabK P w s.heap a L es ep t) {x : Addr} {k : List Key} (hx : IsK P w s.heap k x) (hu : A.units < cLine) (hn : k ∉ L.map (·.2)) (hfew : L.length + 1 < 64) {Q : Bool → Shared → Prop}
    (hQ : ∀ h' L' es' ep' t', Heap.SameBut a s.heap h' → TabK P w h' a L' es' ep' t' → L'.Perm ((x, k) :: L) → Q true { s with heap := h' }) : wpAny (model P w) A (setAddHashed a (.ref x) (kh P w k)) Q E s := by
  obtain ⟨o, ho, hex, hd⟩ := R.ob
  have hsl := rowsK_size R.rows
  have hroom := R.room
  unfold setAddHashed
  refine wpAny_holding ?_
  rw [show (100000 : Nat) = 99999 + 1 from rfl, setAddHashedIn_succ]
  refine wpAny_bind (wpAny_setState_of ho hd R.fits ?_)
  dsimp only
  refine wp_if_neg (by simp [byScan, Value.scannable]) ?_
  try refine wpAny_bind (wpAny_pure ?_)
  refine wpAny_bind (free_at R hx hu hn true fun K hK hb => ?_)
  dsimp only
  refine wpAny_bind (wpAny_setState_of ho hd R.fits ?_)
  dsimp only
  obtain ⟨q1, q2, q3, q4, _, _, _, _, q9⟩ := R.tab.put hK hb
  generalize t.put (way t.mask (kh P w k) K) = pt at q1 q3 q4 q9 ⊢
  obtain ⟨t1, p⟩ := pt
  dsimp only at q1 q3 q4 q9 ⊢
  subst q1
  have pm : ((L.take (SetTable.below t.place (way t.mask (kh P w k) K))) ++ (x, k) :: L.drop (SetTable.below t.place (way t.mask (kh P w k) K))).Perm ((x, k) :: L) := by
    have h : (L.take (SetTable.below t.place (way t.mask (kh P w k) K)) ++ (x, k) :: L.drop (SetTable.below t.place (way t.mask (kh P w k) K))).Perm ((x, k) :: (L.take (SetTable.below t.place (way t.mask (kh P w k) K)) ++ L.drop (SetTable.below t.place (way t.mask (kh P w k) K)))) := List.perm_middle
    rwa [List.take_append_drop] at h
  have hin : (SetTable.insertAt es (SetTable.below t.place (way t.mask (kh P w k) K)) (kh P w k, Value.ref x)).toList = rowsK P w (L.take (SetTable.below t.place (way t.mask (kh P w k) K)) ++ (x, k) :: L.drop (SetTable.below t.place (way t.mask (kh P w k) K))) := by
    rw [SetTable.toList_insertAt, R.rows, rowsK, rowsK, List.map_append, List.map_cons, List.map_take, List.map_drop]
  have q3' : TabOk t1 ((L.take (SetTable.below t.place (way t.mask (kh P w k) K)) ++ (x, k) :: L.drop (SetTable.below t.place (way t.mask (kh P w k) K))).map fun p => kh P w p.2) := by
    rw [List.map_append, List.map_cons, List.map_take, List.map_drop]
    exact q3
  rw [List.length_map] at q9
  generalize SetTable.insertAt es (SetTable.below t.place (way t.mask (kh P w k) K)) (kh P w k, Value.ref x) = es1 at hin ⊢
  generalize L.take (SetTable.below t.place (way t.mask (kh P w k) K)) ++ (x, k) :: L.drop (SetTable.below t.place (way t.mask (kh P w k) K)) = L1 at pm q3' hin
  have hlen : L1.length = L.length + 1 := pm.length_eq
  have hes : es1.size = L.length + 1 := (rowsK_size hin).trans hlen
  have sb : ∀ t2, Heap.SameBut a s.heap (s.heap.update a (Obj.putSet es1 t2)) := fun _ => Heap.SameBut.update ..
  have go : ∀ t2 : SetTable, TabOk t2 (L1.map fun p => kh P w p.2) → t2.mask = t.mask → t2.fill = L.length + 1 → wpAny (model P w) A (do
      storeSet a es1 t2
      if (!false && t2.tooFull) = true then do
        setRelay a (SetTable.grown (es.size + 1))
        pure true
      else pure true) Q E s := by
    intro t2 T em ef
    refine wpAny_bind (wpAny_storeSet_of ho hd ?_ (by rw [hes, sizeLine_eq]; omega))
    have ho1 := store_at (es' := es1) (t' := t2) ho hd
    have sb := sb t2
    generalize s.heap.update a (Obj.putSet es1 t2) = h1 at sb ho1 ⊢
    have tup1 : ∀ p ∈ L1, IsK P w h1 p.2 p.1 := fun p hp => by
      rcases List.mem_cons.mp (pm.mem_iff.mp hp) with e | hp
      · rw [e]
        exact isK_same hx ho hd sb
      · exact isK_same (R.tup p hp) ho hd sb
    have full : t2.tooFull = decide ((L.length + 1) * 5 ≥ t.mask * 3) := by
      unfold SetTable.tooFull
      rw [ef, em]
    by_cases hf : (L.length + 1) * 5 ≥ t.mask * 3
    · refine wp_if_pos (by rw [full]; simp [hf]) ?_
      rw [hsl]
      have two : (t.mask = 7 ∧ L.length = 4) ∨ (t.mask = 31 ∧ L.length = 18) := by
        rcases R.tab.mok with e | e | e
        · exact .inl ⟨e, by omega⟩
        · exact .inr ⟨e, by omega⟩
        · omega
      have hsz : t2.place.size = es1.size := by rw [T.sz, List.length_map, hes, hlen]
      have anew : ∀ M, SetTable.sizeAbove (SetTable.grown (L.length + 1)) - 1 = M → MaskOk M → SetTable.sizeAbove (SetTable.grown (L.length + 1)) ≤ 128 → (L.length + 1) * 5 < M * 3 →
          wpAny (model P w) A (setRelay a (SetTable.grown (L.length + 1))) (fun _ s' => wpAny (model P w) A (pure true) Q E s') E { s with heap := h1 } := fun M m1 m2 m3 m4 =>
        relay_K (s := { s with heap := h1 }) ho1 ⟨hex.1, hex.2.1, hex.2.2⟩ rfl hin hsz T.dm (by omega) tup1 (by omega) m1 m2 m3 (by omega) fun h2 L2 es2 ep2 t3 sb2 R2 pm2 => wpAny_pure (hQ h2 L2 es2 ep2 t3 (sb.trans sb2) R2 (pm2.trans pm))
      refine wpAny_bind ?_
      rcases two with ⟨_, e2⟩ | ⟨_, e2⟩
      · exact anew 31 (by rw [e2, size_20]) (.inr (.inl rfl)) (by rw [e2, size_20]; decide) (by omega)
      · exact anew 127 (by rw [e2, size_76]) (.inr (.inr rfl)) (by rw [e2, size_76]; decide) (by omega)
    · refine wp_if_neg (by rw [full]; simp [hf]) ?_
      exact wpAny_pure (hQ h1 L1 es1 (ep + 1) t2 sb ⟨⟨_, ho1, ⟨hex.1, hex.2.1, hex.2.2⟩, rfl⟩, hin, T, tup1, by omega, by omega⟩ pm)
  have g1 := go t1 q3' q4 q9
  have g2 := go { t1 with plain := false } ⟨q3'.ris, q3'.dm, q3'.sz, q3'.mok, q3'.bd, q3'.reach⟩ q4 q9
  by_cases hp : t1.plain = true
  · refine wp_if_pos hp (wpAny_bind (hash_tup hx fun r => ?_))
    cases r
    · exact g2
    · exact g1
  · exact wp_if_neg hp (wpAny_bind (wpAny_pure g1))
end
end WX
namespace WX
open PySem PySem.Spec PyProof.Rows L2
/-! ### such a set over the layer -/
structure TabK0 (P : Program) (w : World) (h : Heap) (a : Addr) (L : List (Addr × List Key)) : Prop where
  ex : ∃ o es ep t, h.get? a = some o ∧ o.ExactSet ∧ o.data = .set es ep t ∧ es.toList = rowsK P w L ∧ TabOk t (L.map fun p => kh P w p.2) ∧ L.length * 5 < t.mask * 3 ∧ L.length < 64
def SetKT (P : Program) (w : World) (a : Addr) (L : List (Addr × List Key)) : HO := .ext fun h => TabK0 P w h a L
section
variable {P : Program} {w : World} {h : Heap} {a : Addr} {L : List (Addr × List Key)}
theorem TabK0.of {es : Array (Int × Value)} {ep : Nat} {t : SetTable} (R : TabK P w h a L es ep t) : TabK0 P w h a L := let ⟨o, h1, h2, h3⟩ := R.ob; ⟨o, es, ep, t, h1, h2, h3, R.rows, R.tab, R.room, R.few⟩
theorem TabK0.full (R : TabK0 P w h a L) (ht : ∀ p ∈ L, IsK P w h p.2 p.1) : ∃ es ep t, TabK P w h a L es ep t :=
  let ⟨o, es, ep, t, h1, h2, h3, h4, h5, h6, h7⟩ := R.ex; ⟨es, ep, t, ⟨o, h1, h2, h3⟩, h4, h5, ht, h6, h7⟩
theorem setKT_ok {H : Hp} (R : TabK0 P w h a L) : ObjOk P w H h a (SetKT P w a L) := by
  obtain ⟨o, es, ep, t, h1, r⟩ := R.ex
  exact ⟨R, ⟨o, h1⟩, fun g1 g2 ⟨o', es', ep', t', q1, r'⟩ k => ⟨o', es', ep', t', k _ q1, r'⟩⟩
/-- all members stand -/
def AllT (H : Hp) (L : List (Addr × List Key)) : Prop := ∀ p ∈ L, H p.1 = some (.tup (p.2.map kV))
theorem AllT.is {H : Hp} (h1 : AllT H L) (ok : HOk P w H h) : ∀ p ∈ L, IsK P w h p.2 p.1 := fun p hp => key_of ok (h1 p hp)
end
section
variable {X : Cx} {pins : List (Addr × Obj)} {σ : L2.St} {H : Hp} {s : Shared} {a : Addr} {L : List (Addr × List Key)}
theorem setKT_get (I : Inv X pins σ H s) (ha : H a = some (SetKT X.prog X.w a L)) : TabK0 X.prog X.w s.heap a L := (I.hok a _ ha).1
theorem TabK0.typeIs {P : Program} {w : World} (R : TabK0 P w s.heap a L) : s.TypeIs (.ref a) "set" := let ⟨o, _, _, _, h1, h2, _⟩ := R.ex; ⟨o, h1, h2.1⟩
theorem TabK0.noDict {P : Program} {w : World} (R : TabK0 P w s.heap a L) : ∀ b, Value.ref a = .ref b → ∃ ob, s.heap.get? b = some ob ∧ ob.dict = none := by
  intro b e
  cases e
  obtain ⟨o, _, _, _, h1, h2, _⟩ := R.ex
  exact ⟨o, h1, h2.2.1⟩
/-- set() -/
def rSet0T (P : Program) (w : World) : List V → Hp → VK → Prop := fun xs H Q => xs = [] ∧ ∀ p, H p = none → Q (.ref p) (L2.upd H p (SetKT P w p []))
theorem cr_set0T : CallR X (.type "set") (rSet0T X.prog X.w) := by
  intro pins s σ H xs us Q I r h
  obtain ⟨rfl, q⟩ := h
  cases r
  refine setR_new fun _ => ?_
  have new : TabK0 X.prog X.w (s.heap.push { cls := .type "set", dict := none, data := .set #[] 0 (.fresh 0 0 (!X.w.params.followText "set-order")) }) s.heap.objs.size [] := by
    refine ⟨_, #[], 0, _, Heap.get?_push_size _ rfl, ⟨rfl, rfl, rfl⟩, rfl, rfl, ⟨List.Pairwise.nil, rfl, rfl, .inl rfl, fun x hx => (by cases hx), fun i h j hi => (by simp at hi)⟩, ?_, ?_⟩
    · show 0 * 5 < 7 * 3
      decide
    · show 0 < 64
      decide
  exact ⟨.ref _, L2.upd H s.heap.objs.size (SetKT X.prog X.w s.heap.objs.size []), I.laid (t' := s.toks) (fun b u e => Heap.get?_push_of_some _ e) (Nat.le_refl _) (setKT_ok new), rfl, q _ (I.hok.fresh (Nat.le_refl _))⟩
/-- k in found, where k is not -/
def rNoT (P : Program) (w : World) (neg : Bool) : R2 := fun x y H Q => ∃ a b k L, x = V.ref b ∧ y = V.ref a ∧ H b = some (.tup (k.map kV)) ∧ H a = some (SetKT P w a L) ∧ AllT H L ∧ k ∉ L.map (·.2) ∧ Q (.bl neg) H
theorem has_not (hu : X.A.units + 8 < cLine) (I : Inv X pins σ H s) {b : Addr} {k : List Key} (hb : H b = some (.tup (k.map kV))) (ha : H a = some (SetKT X.prog X.w a L)) (hall : AllT H L) (hn : k ∉ L.map (·.2)) {E : Value → Shared → Prop} {Q : Bool → Shared → Prop}
    (q : ∀ tk, Q false { s with toks := tk }) : wpAny (model X.prog X.w) X.A (contains (.ref a) (.ref b)) Q E s := by
  have R0 := setKT_get I ha
  have hT := R0.typeIs
  have hk : IsK X.prog X.w s.heap k b := key_of I.hok hb
  obtain ⟨es, ep, t, R⟩ := R0.full (hall.is I.hok)
  have hu1 : X.A.in1.units < cLine := by show X.A.units + 1 < cLine; omega
  have find : ∀ tk (E' : Value → Shared → Prop), wpAny (model X.prog X.w) X.A.in1 (setFind a (.ref b) (kh X.prog X.w k)) (fun r s' => r = none ∧ s' = { s with toks := tk }) E' { s with toks := tk } := fun tk E' => by
    have Rk : TabK X.prog X.w ({ s with toks := tk } : Shared).heap a L es ep t := R
    obtain ⟨o, ho, hex, hd⟩ := Rk.ob
    unfold setFind
    rw [show (100000 : Nat) = 99999 + 1 from rfl]
    unfold setFindIn
    refine wpAny_bind (wpAny_setState_of ho hd Rk.fits ?_)
    dsimp only
    refine wp_if_neg (by simp [byScan, Value.scannable]) ?_
    try refine wpAny_bind (wpAny_pure ?_)
    refine wpAny_bind (free_at Rk (x := b) hk hu1 hn false fun K _ _ => ?_)
    exact wpAny_pure ⟨rfl, rfl⟩
  unfold contains
  try with_reducible refine wpAny_holding ?_
  refine wpAny_bind (wpAny_specialOf hT F.slot_set_contains.lookup ?_)
  show wpAny _ _ (if (some (Value.builtin "set.__contains__") == some Value.none) = true then _ else _) _ _ s
  rw [if_neg (by rw [beq_builtin_none]; exact Bool.false_ne_true)]
  refine wpAny_bind (wpAny_callSpecialUnlessNone?_slot (name := Str.ofString "__contains__") hT F.slot_set_contains (wpAny_call_entry F.slot_set_contains hT entry_set_contains ?_ (F.args_set_contains_2 _ _)))
  unfold Builtin.«frozenset.__contains__» Builtin.Frozenset.oneOther
  simp only [List.isEmpty_nil, bind_assoc]
  unfold Builtin.Frozenset.addrOf Builtin.Frozenset.withSetAsKey setContains
  refine wpAny_bind (wpAny_pure ?_)
  try dsimp only
  refine wpAny_bind (wpAny_pure ?_)
  try dsimp only
  refine wpAny_bind (wpAny_tryCatch (wpAny_holding (wpAny_bind (wpAny_pyHash_tuple (by show X.A.units + 1 < cLine; omega) hk ?_))))
  refine wpAny_bind (wpAny_mono (find _ _) (fun r s' z => ?_) fun _ _ z => z)
  obtain ⟨rfl, rfl⟩ := z
  exact wpAny_pure (wpAny_pure ⟨_, rfl, wpAny_truthy_bool (q _)⟩)
theorem or_noT (hu : X.A.units + 8 < cLine) : OpR X (compareOp .In) (rNoT X.prog X.w false) := by
  intro pins s σ H x y v u Q I rx ry h
  obtain ⟨a, b, k, L, rfl, rfl, hb, ha, hall, hn, q⟩ := h
  cases rx
  cases ry
  show wpAny _ _ (do return Value.bool (← contains (.ref a) (.ref b))) _ _ s
  exact wpAny_bind (has_not hu I hb ha hall hn fun tk => wpAny_pure ⟨.bl false, H, I.tok tk, rfl, q⟩)
/-- found.add(k), k new -/
def tAddT (P : Program) (w : World) (to : TE) (t : TA) : TE := fun σ H Q => to σ H fun x H1 => (∃ a L, x = V.ref a ∧ H1 a = some (SetKT P w a L)) ∧ t σ H1 fun xs H2 => ∃ a b k L, x = V.ref a ∧ xs = [V.ref b] ∧ H2 a = some (SetKT P w a L) ∧ H2 b = some (.tup (k.map kV)) ∧
  AllT H2 L ∧ k ∉ L.map (·.2) ∧ L.length + 1 < 64 ∧ ∀ L', L'.Perm ((b, k) :: L) → Q .non (L2.upd H2 a (SetKT P w a L'))
variable {o e : Expr} {to : TE} {t : TA} {apos cpos : Pos}
theorem pe_addT (hu : X.A.units + 8 < cLine) (ho : PE X o to) (ha : PA X [e] t) (hbase : attributeBase o "add" X.env (eval o X.env) = eval o X.env := by rfl)
    (hfew : ((backTo cpos (starEach [e] X.env)).all (fun x => !x.1) && (backToKw cpos (keywordEach [] X.env)).all (fun x => x.1.isSome) && decide ([e].length + ([] : List Keyword).length + (if ([] : List Keyword).isEmpty then 0 else 1) < 30)) = true := by rfl)
    (hline : (apos.endLine == cpos.line) = true := by rfl) (hs : starEach [e] X.env = (false, eval e X.env) :: starEach [] X.env := by rfl) (hpl : (backTo cpos (starEach [] X.env)).any (·.1) = false := by rfl) :
    PE X (.Call (.Attribute o "add" apos) [e] [] cpos) (tAddT X.prog X.w to t) := by
  refine ⟨fun pins s σ H Q I h => wpAny_Call_method_late hbase hfew hline rfl (thn (ho.run pins s σ H _ I h) fun v s1 ⟨x, H1, I1, r1, ⟨a, L0, ex, hka⟩, q1⟩ => ?_)⟩
  subst ex
  have hS := setKT_get I1 hka
  cases r1
  refine ⟨"set", "set.add", F.plainAttrs_set, F.slot_set_add, F.type_set_add, hS.typeIs, hS.noDict, ?_⟩
  have hA := ha.run cpos pins s1 σ H1 _ I1 q1
  rw [hs] at hA ⊢
  refine Calls.callWith_builtin (by show (false || (backTo cpos (starEach [] X.env)).any (·.1)) = false; rw [hpl]; rfl) (Calls.evalArgs_plain (thn hA fun us s2 ⟨vs, H2, I2, r2, a', b, k, L, ea, ev, hs2, hb, hall, hn, hfew', q2⟩ => ?_))
  cases ea
  subst ev
  obtain ⟨u, rfl, ru⟩ := vals1 r2
  cases ru
  have R0 := setKT_get I2 hs2
  have hT := R0.typeIs
  have hk : IsK X.prog X.w s2.heap k b := key_of I2.hok hb
  obtain ⟨es, ep, t0, R⟩ := R0.full (hall.is I2.hok)
  refine wpAny_call_entry F.slot_set_add hT F.entry_set_add ?_ (F.args_set_add_2 _ _)
  unfold Builtin.«set.add» Builtin.Frozenset.oneOther
  simp only [List.isEmpty_nil, bind_assoc]
  unfold Builtin.Frozenset.addrOf setAdd
  refine wpAny_bind (wpAny_pure ?_)
  try dsimp only
  try refine wpAny_bind (wpAny_pure ?_)
  try dsimp only
  refine wpAny_bind (wpAny_holding (wpAny_bind (wpAny_pyHash_tuple (by show X.A.units + 1 < cLine; omega) hk ?_)))
  have Rk : TabK X.prog X.w ({ s2 with toks := s2.toks + (k.length + 1) } : Shared).heap a L es ep t0 := R
  refine add_K (s := { s2 with toks := s2.toks + (k.length + 1) }) Rk hk (by show X.A.units + 1 < cLine; omega) hn hfew' fun h' L' es' ep' t' sb R' pm => ?_
  show wpAny _ _ (ret Value.none) _ _ _
  have he : ∃ u, h'.get? a = some u := let ⟨o, h1, _⟩ := R'.ob; ⟨o, h1⟩
  exact wpAny_pure ⟨_, rfl, .non, L2.upd H2 a (SetKT X.prog X.w a L'), I2.write (e := a) (t' := s2.toks + (k.length + 1)) (by rw [hs2]; trivial) (.inl rfl) (fun b u hb hu => (sb.2 b hb).trans hu) he (setKT_ok (.of R')), rfl, q2 L' pm⟩
end
end WX
namespace WX
open PySem PySem.Spec PyProof.Rows L2
/-! ### texts and pairs of texts in order -/
theorem str_ext {a b : Str} (h : a.cps.toList = b.cps.toList) : a = b := by
  cases a
  cases b
  exact congrArg Str.mk (Array.toList_inj.mp h)
def leS (a b : Str) : Bool := decide (a.cps.toList ≤ b.cps.toList)
def leP (p q : Str × Str) : Bool := decide (p.1.cps.toList < q.1.cps.toList ∨ (p.1 = q.1 ∧ p.2.cps.toList ≤ q.2.cps.toList))
theorem leS_trans (a b c : Str) (h : leS a b = true) (g : leS b c = true) : leS a c = true := decide_eq_true (List.le_trans (of_decide_eq_true h) (of_decide_eq_true g))
theorem leS_total (a b : Str) : (leS a b || leS b a) = true := by
  rcases List.le_total a.cps.toList b.cps.toList with h | h
  · rw [show leS a b = true from decide_eq_true h, Bool.true_or]
  · rw [show leS b a = true from decide_eq_true h, Bool.or_true]
theorem leS_anti (a b : Str) (h : leS a b = true) (g : leS b a = true) : a = b := str_ext (List.le_antisymm (of_decide_eq_true h) (of_decide_eq_true g))
theorem leP_trans (a b c : Str × Str) (h : leP a b = true) (g : leP b c = true) : leP a c = true := by
  refine decide_eq_true ?_
  rcases of_decide_eq_true h with h | ⟨h1, h2⟩ <;> rcases of_decide_eq_true g with g | ⟨g1, g2⟩
  · exact .inl (List.lt_trans h g)
  · exact .inl (g1 ▸ h)
  · exact .inl (h1 ▸ g)
  · exact .inr ⟨h1.trans g1, List.le_trans h2 g2⟩
theorem leP_total (a b : Str × Str) : (leP a b || leP b a) = true := by
  have k : leP a b = true ∨ leP b a = true := by
    rcases List.le_total a.1.cps.toList b.1.cps.toList with h | h
    · rcases List.le_iff_lt_or_eq.mp h with h | h
      · exact .inl (decide_eq_true (.inl h))
      · have e := str_ext h
        rcases List.le_total a.2.cps.toList b.2.cps.toList with g | g
        · exact .inl (decide_eq_true (.inr ⟨e, g⟩))
        · exact .inr (decide_eq_true (.inr ⟨e.symm, g⟩))
    · rcases List.le_iff_lt_or_eq.mp h with h | h
      · exact .inr (decide_eq_true (.inl h))
      · have e := str_ext h
        rcases List.le_total a.2.cps.toList b.2.cps.toList with g | g
        · exact .inl (decide_eq_true (.inr ⟨e.symm, g⟩))
        · exact .inr (decide_eq_true (.inr ⟨e, g⟩))
  rcases k with k | k <;> rw [k] <;> simp
theorem leP_anti (a b : Str × Str) (h : leP a b = true) (g : leP b a = true) : a = b := by
  rcases of_decide_eq_true h with h | ⟨h1, h2⟩ <;> rcases of_decide_eq_true g with g | ⟨g1, g2⟩
  · exact absurd (List.lt_trans h g) (List.lt_irrefl _)
  · rw [g1] at h
    exact absurd h (List.lt_irrefl _)
  · rw [h1] at g
    exact absurd g (List.lt_irrefl _)
  · exact Prod.ext h1 (str_ext (List.le_antisymm h2 g2))
def sortS (l : List Str) : List Str := l.mergeSort leS
def sortP (l : List (Str × Str)) : List (Str × Str) := l.mergeSort leP
theorem sortS_pm (l : List Str) : (sortS l).Perm l := List.mergeSort_perm l leS
theorem sortP_pm (l : List (Str × Str)) : (sortP l).Perm l := List.mergeSort_perm l leP
theorem sortS_eq {l m : List Str} (h : l.Perm m) : sortS l = sortS m :=
  List.Perm.eq_of_pairwise (fun a b _ _ => leS_anti a b) (List.pairwise_mergeSort leS_trans leS_total l) (List.pairwise_mergeSort leS_trans leS_total m) ((sortS_pm l).trans (h.trans (sortS_pm m).symm))
theorem sortP_eq {l m : List (Str × Str)} (h : l.Perm m) : sortP l = sortP m :=
  List.Perm.eq_of_pairwise (fun a b _ _ => leP_anti a b) (List.pairwise_mergeSort leP_trans leP_total l) (List.pairwise_mergeSort leP_trans leP_total m) ((sortP_pm l).trans (h.trans (sortP_pm m).symm))
theorem sortS_of {l m : List Str} (h : l.Perm (sortS m)) : sortS l = sortS m := sortS_eq (h.trans (sortS_pm m))
theorem sortP_of {l m : List (Str × Str)} (h : l.Perm (sortP m)) : sortP l = sortP m := sortP_eq (h.trans (sortP_pm m))
theorem dataLe_P : PySem.W.dataLe false (fun p : Str × Str => PyData.tuple [.str p.1, .str p.2]) = leP := by
  funext p q
  rw [PySem.W.dataLe_eq]
  show (!PySem.W.dataLt (.tuple [.str q.1, .str q.2]) (.tuple [.str p.1, .str p.2])) = leP p q
  rw [PySem.W.dataLt_pair (by simp [PySem.W.alike]) (by simp [PySem.W.alike]), PySem.W.dataLt_str, PySem.W.dataLt_str]
  simp only [PyData.eqv, beq_iff_eq]
  unfold leP
  by_cases h1 : q.1 = p.1
  · rw [if_pos h1]
    by_cases h2 : q.2 = p.2
    · rw [if_pos h2]
      simp [h1, h2, List.le_refl]
    · rw [if_neg h2, PySem.W.not_lt_str]
      simp [h1, List.lt_irrefl]
  · rw [if_neg h1, PySem.W.not_lt_str]
    have h3 : ¬ p.1 = q.1 := fun z => h1 z.symm
    refine decide_eq_decide.mpr ?_
    rw [List.le_iff_lt_or_eq]
    have h4 : ¬ p.1.cps.toList = q.1.cps.toList := fun z => h3 (str_ext z)
    simp [h3, h4]
theorem dataLe_S : PySem.W.dataLe false (fun x : Str => PyData.str x) = leS := PySem.W.dataLe_str (fun x => x)
/-! ### the pairs that a list's things are -/
def PT (H : Hp) (ps : List (Str × Str)) (vs : List V) : Prop := vs.length = ps.length ∧ ∀ (i : Nat) p v, ps[i]? = some p → vs[i]? = some v → ∃ t, v = .ref t ∧ H t = some (.tup [.str p.1, .str p.2])
theorem each_get {α β : Type} {R : α → β → Prop} : ∀ {as : List α} {bs : List β}, as.length = bs.length → (∀ (i : Nat) a b, as[i]? = some a → bs[i]? = some b → R a b) → PySem.W.EachIs R as bs
  | [], [], _, _ => .nil
  | a :: as, b :: bs, hl, h => .cons (h 0 a b rfl rfl) (each_get (Nat.succ.inj hl) fun i x y h1 h2 => h (i + 1) x y h1 h2)
theorem get_each {α β : Type} {R : α → β → Prop} {as : List α} {bs : List β} (e : PySem.W.EachIs R as bs) : as.length = bs.length ∧ ∀ (i : Nat) a b, as[i]? = some a → bs[i]? = some b → R a b := by
  induction e with
  | nil => exact ⟨rfl, fun i a b h => (by simp at h)⟩
  | cons h _ ih =>
    refine ⟨congrArg Nat.succ ih.1, fun i x y h1 h2 => ?_⟩
    cases i with
    | zero =>
      simp at h1 h2
      exact h1 ▸ h2 ▸ h
    | succ i => exact ih.2 i x y (by simpa using h1) (by simpa using h2)
theorem PT.keep {H H' : Hp} {ps : List (Str × Str)} {vs : List V} (h : PT H ps vs) (k : ∀ t xs, H t = some (.tup xs) → H' t = some (.tup xs)) : PT H' ps vs := ⟨h.1, fun i p v h1 h2 => by
  obtain ⟨t, e, ht⟩ := h.2 i p v h1 h2
  exact ⟨t, e, k t _ ht⟩⟩
theorem PT.nil {H : Hp} : PT H [] [] := ⟨rfl, fun i p v h => (by simp at h)⟩
def rSortedQ (K : PySem.W.Frag) : List V → Hp → VK → Prop := fun xs H Q => ∃ a ps vs, xs = [V.ref a] ∧ SqL K H a vs ∧ PT H ps vs ∧ ∀ ys p, PT H (sortP ps) ys → H p = none → Q (.ref p) (L2.upd H p (.lst ys))
theorem cr_sortedQ {X : Cx} (hu : X.A.units + 64 < cLine) : CallR X (.builtin "sorted") (rSortedQ X.K) := by
  intro pins s σ H xs us Q I r h
  obtain ⟨a, ps, vs, rfl, hs, hp, q⟩ := h
  obtain ⟨its, rv, hl, hz⟩ := I.list hs
  obtain ⟨u, rfl, ru⟩ := vals1 r
  cases ru
  have hlen := rv.length
  have e0 : PySem.W.EachIs (fun (u : Value) (p : Str × Str) => ∃ t, u = .ref t ∧ H t = some (.tup [.str p.1, .str p.2])) its ps := by
    refine each_get (by rw [← hlen, hp.1]) fun i u p h1 h2 => ?_
    have hi : i < vs.length := by rw [hlen]; exact (List.getElem?_eq_some_iff.mp h1).1
    obtain ⟨u', g1, g2⟩ := rv.get (List.getElem?_eq_getElem hi)
    rw [h1] at g1
    cases g1
    obtain ⟨t, e, ht⟩ := hp.2 i p _ h2 (List.getElem?_eq_getElem hi)
    rw [e] at g2
    cases g2
    exact ⟨t, rfl, ht⟩
  have er : PySem.W.EachIs (fun (u : Value) (p : Str × Str) => ∃ as, Reads s.heap u ((fun p : Str × Str => PyData.tuple [.str p.1, .str p.2]) p) as) its ps := e0.mono fun u p ⟨t, e, ht⟩ => by
    subst e
    exact Dp.reads I _ (.ref t) _ (.tup (.inl (.inl ht)) (.cons (.str _) (.cons (.str _) .nil))) rfl
  refine PySem.W.sorted_data (enc := fun p : Str × Str => PyData.tuple [.str p.1, .str p.2]) hl.isList e0 er (PySem.W.AllAlike.of fun b b' => by simp [PySem.W.alike, PySem.W.alikeAll]) (PySem.W.Sortable.tuples fun b => ⟨_, _, rfl⟩) (by rw [← hp.1]; exact hz) (fun b _ => ?_) fun out ho eo => ?_
  · have : (PyData.tuple [.str b.1, .str b.2]).depth ≤ 2 := by simp [PyData.depth, PyData.depthAll]
    omega
  · rw [dataLe_P] at eo
    obtain ⟨g1, g2⟩ := get_each eo
    obtain ⟨ep, he⟩ := PyProof.Rows.sortedAll_at s.heap its out.toArray
    obtain ⟨ys, hy1, hy2⟩ : ∃ ys : List V, Vals ys out ∧ PT H (sortP ps) ys := by
      have key : ∀ {out : List Value} {ps : List (Str × Str)}, PySem.W.EachIs (fun (u : Value) (p : Str × Str) => ∃ t, u = .ref t ∧ H t = some (.tup [.str p.1, .str p.2])) out ps → ∃ ys : List V, Vals ys out ∧ PT H ps ys := by
        intro out ps e
        induction e with
        | nil => exact ⟨[], .nil, .nil⟩
        | @cons u p us ps h _ ih =>
          obtain ⟨ys, h1, h2⟩ := ih
          obtain ⟨t, rfl, ht⟩ := h
          refine ⟨.ref t :: ys, .cons rfl h1, congrArg Nat.succ h2.1, fun i p v g1 g2 => ?_⟩
          cases i with
          | zero =>
            simp at g1 g2
            exact ⟨t, g2.symm, g1 ▸ ht⟩
          | succ i => exact h2.2 i p v (by simpa using g1) (by simpa using g2)
      exact key eo
    have hl2 : ys.length ≤ sizeLine := by
      rw [hy2.1, (sortP_pm ps).length_eq, ← hp.1]
      exact hz
    exact ⟨.ref _, L2.upd H (s.heap.objs.size + 1) (.lst ys), I.laid (t' := s.toks) (fun _ _ => PyProof.Rows.sortedAll_old) (Nat.le_succ _) ⟨hl2, out, ep, hy1, he⟩, rfl, q ys _ hy2 (I.hok.fresh (Nat.le_succ _))⟩
end WX
namespace WX
open PySem PySem.Spec PyProof.Rows L2
/-! ### the less and the greater of two texts -/
def strAt (x y : Str) (i : Nat) : List Nat := if i = 0 then x.cps.toList else y.cps.toList
section
variable {prog : Program} {w : World} {A : Around} {E : Value → Shared → Prop} {s : Shared} {x y : Str} {t u : Tok}
theorem two_at {i : Nat} {v : Value} (h : (#[Value.str x t, Value.str y u] : Array Value)[i]? = some v) : (i = 0 ∧ v = .str x t) ∨ (i = 1 ∧ v = .str y u) := by
  match i, h with
  | 0, h => exact .inl ⟨rfl, by simpa using h.symm⟩
  | 1, h => exact .inr ⟨rfl, by simpa using h.symm⟩
  | i + 2, h => simp at h
theorem cmp_lt : CmpOf prog w A .Lt (fun i v => (#[Value.str x t, Value.str y u] : Array Value)[i]? = some v) (fun i j => decide (strAt x y i < strAt x y j)) := by
  intro i j vi vj s Q E hi hj hQ
  show wpAny (model prog w) A (compareOp .Lt vi vj) Q E s
  rcases two_at hi with ⟨rfl, rfl⟩ | ⟨rfl, rfl⟩ <;> rcases two_at hj with ⟨rfl, rfl⟩ | ⟨rfl, rfl⟩ <;> exact lt_str hQ
theorem cmp_gt : CmpOf prog w A .Gt (fun i v => (#[Value.str x t, Value.str y u] : Array Value)[i]? = some v) (fun i j => decide (strAt x y j < strAt x y i)) := by
  intro i j vi vj s Q E hi hj hQ
  show wpAny (model prog w) A (compareOp .Gt vi vj) Q E s
  rcases two_at hi with ⟨rfl, rfl⟩ | ⟨rfl, rfl⟩ <;> rcases two_at hj with ⟨rfl, rfl⟩ | ⟨rfl, rfl⟩ <;> exact PySem.P.gt_str hQ
theorem min_S {Q : Value → Shared → Prop} (hh : A.handled = none) (h : ∀ h' tk, (∀ c o, s.heap.get? c = some o → h'.get? c = some o) → Q (if y.cps.toList < x.cps.toList then .str y u else .str x t) { s with heap := h', toks := tk }) :
    wpAny (model prog w) A (call (.builtin "min") [.str x t, .str y u]) Q E s := by
  have hT : (s.heap.push { cls := .type "tuple", data := .seq #[.str x t, .str y u] }).IsTuple s.heap.objs.size #[.str x t, .str y u] := ⟨_, Heap.get?_push_size _ rfl, rfl, 0, rfl⟩
  have hz : (s.heap.push { cls := .type "tuple", data := .seq #[.str x t, .str y u] }).objs.size = s.heap.objs.size + 1 := Heap.size_push ..
  refine call_min_two (wpAny_pyIter_tuple hT ⟨_, [_, s.heap.objs.size], [_], _, _, _, _, rfl, Walks.tuple (A := A.in1) hh _ s.heap.objs.size (by rw [hz]; exact Nat.ne_of_lt (Nat.lt_succ_self _)) #[.str x t, .str y u], ⟨⟨_, Heap.get?_push_size _ rfl, rfl, rfl⟩, hT.push _⟩, fun c hc => ?_, Nat.succ_pos _, cmp_lt, fun v h' tk hP hk => ?_⟩)
  · show c < ((s.heap.push _).push _).objs.size
    rw [Heap.size_push, hz]
    have hc : c = s.heap.objs.size + 1 ∨ c = s.heap.objs.size := by simpa [hz] using hc
    rcases hc with z | z <;> rw [z]
    · exact Nat.lt_succ_self _
    · exact Nat.lt_succ_of_lt (Nat.lt_succ_self _)
  · have hv : v = if y.cps.toList < x.cps.toList then .str y u else .str x t := by
      have e : argBest (fun i j => decide (strAt x y i < strAt x y j)) 1 = if y.cps.toList < x.cps.toList then 1 else 0 := by simp [argBest, strAt]
      have hP : (#[Value.str x t, Value.str y u] : Array Value)[argBest (fun i j => decide (strAt x y i < strAt x y j)) 1]? = some v := hP
      rw [e] at hP
      by_cases c : y.cps.toList < x.cps.toList
      · rw [if_pos c] at hP ⊢
        simpa using hP.symm
      · rw [if_neg c] at hP ⊢
        simpa using hP.symm
    rw [hv]
    refine h h' tk fun c o e => hk c o (fun hm => ?_) (Heap.get?_push_of_some _ (Heap.get?_push_of_some _ e))
    have hm : c = s.heap.objs.size + 1 := by simpa [hz] using hm
    exact absurd (Heap.lt_size e) (by rw [hm]; exact Nat.not_lt.mpr (Nat.le_succ _))
theorem max_S {Q : Value → Shared → Prop} (hh : A.handled = none) (h : ∀ h' tk, (∀ c o, s.heap.get? c = some o → h'.get? c = some o) → Q (if x.cps.toList < y.cps.toList then .str y u else .str x t) { s with heap := h', toks := tk }) :
    wpAny (model prog w) A (call (.builtin "max") [.str x t, .str y u]) Q E s := by
  have hT : (s.heap.push { cls := .type "tuple", data := .seq #[.str x t, .str y u] }).IsTuple s.heap.objs.size #[.str x t, .str y u] := ⟨_, Heap.get?_push_size _ rfl, rfl, 0, rfl⟩
  have hz : (s.heap.push { cls := .type "tuple", data := .seq #[.str x t, .str y u] }).objs.size = s.heap.objs.size + 1 := Heap.size_push ..
  refine call_max_two (wpAny_pyIter_tuple hT ⟨_, [_, s.heap.objs.size], [_], _, _, _, _, rfl, Walks.tuple (A := A.in1) hh _ s.heap.objs.size (by rw [hz]; exact Nat.ne_of_lt (Nat.lt_succ_self _)) #[.str x t, .str y u], ⟨⟨_, Heap.get?_push_size _ rfl, rfl, rfl⟩, hT.push _⟩, fun c hc => ?_, Nat.succ_pos _, cmp_gt, fun v h' tk hP hk => ?_⟩)
  · show c < ((s.heap.push _).push _).objs.size
    rw [Heap.size_push, hz]
    have hc : c = s.heap.objs.size + 1 ∨ c = s.heap.objs.size := by simpa [hz] using hc
    rcases hc with z | z <;> rw [z]
    · exact Nat.lt_succ_self _
    · exact Nat.lt_succ_of_lt (Nat.lt_succ_self _)
  · have hv : v = if x.cps.toList < y.cps.toList then .str y u else .str x t := by
      have e : argBest (fun i j => decide (strAt x y j < strAt x y i)) 1 = if x.cps.toList < y.cps.toList then 1 else 0 := by simp [argBest, strAt]
      have hP : (#[Value.str x t, Value.str y u] : Array Value)[argBest (fun i j => decide (strAt x y j < strAt x y i)) 1]? = some v := hP
      rw [e] at hP
      by_cases c : x.cps.toList < y.cps.toList
      · rw [if_pos c] at hP ⊢
        simpa using hP.symm
      · rw [if_neg c] at hP ⊢
        simpa using hP.symm
    rw [hv]
    refine h h' tk fun c o e => hk c o (fun hm => ?_) (Heap.get?_push_of_some _ (Heap.get?_push_of_some _ e))
    have hm : c = s.heap.objs.size + 1 := by simpa [hz] using hm
    exact absurd (Heap.lt_size e) (by rw [hm]; exact Nat.not_lt.mpr (Nat.le_succ _))
end
def rMinS : List V → Hp → VK → Prop := fun xs H Q => ∃ x y, xs = [V.str x, V.str y] ∧ Q (.str (if y.cps.toList < x.cps.toList then y else x)) H
def rMaxS : List V → Hp → VK → Prop := fun xs H Q => ∃ x y, xs = [V.str x, V.str y] ∧ Q (.str (if x.cps.toList < y.cps.toList then y else x)) H
theorem call_minS {X : Cx} (hc : X.calm = true) : CallR X (.builtin "min") rMinS := by
  intro pins s σ H xs us Q I r h
  obtain ⟨x, y, rfl, q⟩ := h
  obtain ⟨u, v, rfl, ⟨t, rfl⟩, ⟨t', rfl⟩⟩ := vals2 r
  refine min_S (I.ok.hd hc) fun h' tk k => ⟨_, H, I.kept k, ?_, q⟩
  by_cases c : y.cps.toList < x.cps.toList
  · rw [if_pos c, if_pos c]; exact ⟨_, rfl⟩
  · rw [if_neg c, if_neg c]; exact ⟨_, rfl⟩
theorem call_maxS {X : Cx} (hc : X.calm = true) : CallR X (.builtin "max") rMaxS := by
  intro pins s σ H xs us Q I r h
  obtain ⟨x, y, rfl, q⟩ := h
  obtain ⟨u, v, rfl, ⟨t, rfl⟩, ⟨t', rfl⟩⟩ := vals2 r
  refine max_S (I.ok.hd hc) fun h' tk k => ⟨_, H, I.kept k, ?_, q⟩
  by_cases c : x.cps.toList < y.cps.toList
  · rw [if_pos c, if_pos c]; exact ⟨_, rfl⟩
  · rw [if_neg c, if_neg c]; exact ⟨_, rfl⟩
end WX
namespace WX
open PySem PySem.Spec PyProof.Rows L2
/-! ### the variables of an instance whose class is known, and its length -/
def tFldC (C : Addr) (f : Str) (ta : TE) : TE := fun σ H Q => ta σ H fun x H1 => ∃ a dx fs v, x = .ref a ∧ H1 a = some (.ins C dx fs) ∧ fs.lookup f = some v ∧ Q v H1
def sFldC (C : Addr) (f : Str) (ta tv : TE) : TS := fun D σ H => tv σ H fun y H1 => ta σ H1 fun x H2 => ∃ a dx fs, x = .ref a ∧ H2 a = some (.ins C dx fs) ∧ fs.length < 1000 ∧ D.nx σ (L2.upd H2 a (.ins C dx (putF f y fs)))
section
variable {X : Cx} {C : Addr} {o e value : Expr} {f : Str} {pos pos' : Pos} {ta tv : TE}
theorem pe_fldC (c : Cls X.K C) (n : NoAttr X.K C f) (he : PE X e ta) (hb : attributeBase e f X.env (eval e X.env) = eval e X.env) : PE X (.Attribute e f pos) (tFldC C f ta) := by
  refine ⟨fun pins s σ H Q I h => attr_of hb (thn (he.run pins s σ H _ I h) fun u s1 ⟨x, H1, I1, rx, a, dx, fs, v, ex, ea, l, q⟩ => ?_)⟩
  subst ex
  cases rx
  exact getattr_ok I1 ea c n l fun u' s2 I2 ru => ⟨v, H1, I2, ru, q⟩
theorem ps_fldC (c : Cls X.K C) (n : NoAttr X.K C f) (ha : PE X o ta) (hv : PE X value tv) (hs : swapsWith value (some (.Attribute o f pos')) pos.line X.env = pure false := by rfl) : PS X (.Assign [.Attribute o f pos'] value pos) (sFldC C f ta tv) := by
  refine ⟨fun pins s σ H D I h => plainObj_wpAny_Assign_Attribute (thn (hv.run pins s σ H _ I h) fun u s1 ⟨y, H1, I1, ry, q⟩ => thn (ha.run pins s1 σ H1 _ I1 q) fun ov s2 ⟨x, H2, I2, rx, a, dx, fs, ex, ea, l, q2⟩ => ?_) hs⟩
  subst ex
  cases rx
  exact setattr_ok I2 ea c n l ry fun s3 I3 => ⟨σ, _, I3, q2⟩
end
section
variable {X : Cx} {CX : CXT} {n : Nat} {C f : Addr} {fd : FuncData} {ps : List Str} {sp : Sp} {E : XK}
def rLenO (C : Addr) (sp : Sp) (E : XK) : List V → Hp → VK → Prop := fun xs H Q => ∃ a dx fs, xs = [V.ref a] ∧ H a = some (.ins C dx fs) ∧ sp [.ref a] H (fun v H' => ∃ k : Nat, v = .int k ∧ k < 2 ^ 62 ∧ Q (.int k) H') E
theorem call_lenO (S : Sm X.K C "__len__" f) (F : FnOk X.prog X.w X.K X.mg X.base CX n f fd ps sp) (hr : Room (n + 1) X.A) (hb : Binds X.K fd ps []) (hx : Passes CX X E) : CallR X (.builtin "len") (rLenO C sp E) := by
  intro pins s σ H xs us Q I r h
  obtain ⟨a, dx, fs, rfl, ha, q⟩ := h
  obtain ⟨u, rfl, ru⟩ := vals1 r
  cases ru
  obtain ⟨mA, J, _⟩ := ins_get I.hok ha
  obtain ⟨od, J, _⟩ := J.look
  obtain ⟨m, hF⟩ := I.fr
  have sb : Sub X n X.A.in1 := Sub.in1 ⟨hr, rfl⟩
  have hl := F.len _ _ _ _ q
  refine PySem.W.len_K hF I.ok.mod.kin J S.at_ S.fn (wpAny_call (codeAny_mono (F.run X.A.in1 X.stack s H ⟨[.ref a], []⟩ [.ref a] [.ref a] _ E sb.room I.env0.in1 (by have := hb s [.ref a] I.kIn (by simpa using hl); simpa using this) (.cons rfl .nil) q) fun r s' hq => ?_))
  rcases r with e | (_ | _ | _ | v)
  · exact hx pins σ H s e s' I hq
  · exact False.elim hq
  · exact False.elim hq
  · exact False.elim hq
  · obtain ⟨w, H', I', rv, k, rfl, hk, q⟩ := I.after hq
    obtain ⟨t, rfl⟩ := rv
    exact ⟨⟨Int.natCast_nonneg _, by have : (k : Int) < 2 ^ 62 := by exact_mod_cast hk
                                     omega⟩, .int k, H', I'.tok _, ⟨_, rfl⟩, q⟩
end
/-- isinstance(x, C), C an own class -/
def rIsC (K : PySem.W.Frag) : List V → Hp → VK → Prop := fun xs H Q => ∃ x C t b, xs = [x, .ref C] ∧ TyOf K H x t ∧ PySem.W.kitOne K t (.ref C) = some b ∧ Q (.bl b) H
theorem call_isC {X : Cx} {K : PySem.W.Frag} (h : X.K = K := by rfl) : CallR X (.builtin "isinstance") (rIsC K) := by
  subst h
  intro pins s σ H xs us Q I r ⟨x, C, t, b, e, ty, k, q⟩
  exact L2.call_isi pins s σ H xs us Q I r ⟨x, .ref C, t, .ref C, b, e, .own C, .base ty, k, q⟩
end WX
namespace K01
open PySem PySem.Spec PyProof.Rows L2 TL HotExc Tw WX
theorem hu64 {k : Nat} {A : Around} (r : Room k A) : A.units + 64 < cLine := by have := r.un; omega
theorem hu8 {k : Nat} {A : Around} (r : Room k A) : A.units + 8 < cLine := by have := r.un; omega
theorem op_eqDK {X : Cx} {K : PySem.W.Frag} (hu : X.A.units + 64 < cLine) (h : X.K = K := by rfl) : OpR X (compareOp .Eq) (rEqD K) := h ▸ op_eqD hu
theorem op_neDK {X : Cx} {K : PySem.W.Frag} (hu : X.A.units + 64 < cLine) (h : X.K = K := by rfl) : OpR X (compareOp .NotEq) (rNeD K) := h ▸ op_neD hu
theorem cr_sortedPK {X : Cx} {K : PySem.W.Frag} (hu : X.A.units + 64 < cLine) (h : X.K = K := by rfl) : CallR X (.builtin "sorted") (rSortedQ K) := h ▸ cr_sortedQ hu
theorem ix_kdictK {X : Cx} {K : PySem.W.Frag} {w : World} (h : X.K = K := by rfl) (hw : X.w = w := by rfl) : IxR X (rIxD K w) := h ▸ hw ▸ ix_kdict
def rSortedT (K : PySem.W.Frag) : List V → Hp → VK → Prop := fun xs H Q => ∃ a, xs = [V.ref a] ∧ ∃ ws : List Str, SqL K H a (ws.map V.str) ∧ ∀ p, H p = none → Q (.ref p) (L2.upd H p (.lst ((sortS ws).map V.str)))
theorem call_sortedTK {X : Cx} {K : PySem.W.Frag} (hu : X.A.units + 64 < cLine) (h : X.K = K := by rfl) : CallR X (.builtin "sorted") (rSortedT K) := by
  subst h
  intro pins s σ H xs us Q I r h
  obtain ⟨a, rfl, ws, hs, q⟩ := h
  obtain ⟨its, rv, hl, hz⟩ := I.list hs
  obtain ⟨u, rfl, ru⟩ := vals1 r
  cases ru
  have hlen := rv.length
  have key : ∀ {ws : List Str} {its : List Value}, Vals (ws.map V.str) its → PySem.W.EachIs (fun (u : Value) (x : Str) => ∃ t, u = .str x t) its ws := by
    intro ws
    induction ws with
    | nil =>
      intro its r
      cases r
      exact .nil
    | cons x ws ih =>
      intro its r
      cases r with
      | cons r1 r2 => exact .cons r1 (ih r2)
  have back : ∀ {out : List Value} {ws : List Str}, PySem.W.EachIs (fun (u : Value) (x : Str) => ∃ t, u = .str x t) out ws → Vals (ws.map V.str) out := by
    intro out ws e
    induction e with
    | nil => exact .nil
    | cons h _ ih => exact .cons h ih
  have e0 := key rv
  refine PySem.W.sorted_data (enc := fun x : Str => PyData.str x) hl.isList e0 (e0.mono fun u x ⟨t, e⟩ => e ▸ ⟨_, Reads.str x t⟩) (PySem.W.AllAlike.of fun b b' => by simp [PySem.W.alike]) (PySem.W.Sortable.others fun b => ⟨(fun z => nomatch z), fun xs z => nomatch z⟩) (by rw [List.length_map] at hz; exact hz) (fun b _ => ?_) fun out ho eo => ?_
  · have : (PyData.str b).depth = 0 := by simp [PyData.depth]
    omega
  · rw [dataLe_S] at eo
    obtain ⟨ep, he⟩ := PyProof.Rows.sortedAll_at s.heap its out.toArray
    refine ⟨.ref _, L2.upd H (s.heap.objs.size + 1) (.lst ((sortS ws).map V.str)), I.laid (t' := s.toks) (fun _ _ => PyProof.Rows.sortedAll_old) (Nat.le_succ _) ⟨?_, out, ep, back eo, he⟩, rfl, q _ (I.hok.fresh (Nat.le_succ _))⟩
    rw [List.length_map, (sortS_pm ws).length_eq, ← List.length_map (f := V.str)]
    exact hz
theorem or_sinKP {X : Cx} {P : Program} {w : World} (hP : X.prog = P := by rfl) (hw : X.w = w := by rfl) : OpR X (compareOp .In) (rSInK P w false) := hP ▸ hw ▸ or_sinK
theorem or_snotinKP {X : Cx} {P : Program} {w : World} (hP : X.prog = P := by rfl) (hw : X.w = w := by rfl) : OpR X (compareOp .NotIn) (rSInK P w true) := hP ▸ hw ▸ or_snotinK
theorem cr_set0KP {X : Cx} {P : Program} {w : World} (hP : X.prog = P := by rfl) (hw : X.w = w := by rfl) : CallR X (.type "set") (rSet0K P w) := hP ▸ hw ▸ cr_set0K
theorem cr_set0TP {X : Cx} {P : Program} {w : World} (hP : X.prog = P := by rfl) (hw : X.w = w := by rfl) : CallR X (.type "set") (rSet0T P w) := hP ▸ hw ▸ cr_set0T
theorem or_noTP {X : Cx} {P : Program} {w : World} (hu : X.A.units + 8 < cLine) (hP : X.prog = P := by rfl) (hw : X.w = w := by rfl) : OpR X (compareOp .In) (rNoT P w false) := hP ▸ hw ▸ or_noT hu
theorem pe_saddKP {X : Cx} {P : Program} {w : World} {o e : Expr} {to : TE} {t : TA} {apos cpos : Pos} (ho : PE X o to) (ha : PA X [e] t) (hP : X.prog = P := by rfl) (hw : X.w = w := by rfl) (hbase : attributeBase o "add" X.env (eval o X.env) = eval o X.env := by rfl)
    (hfew : ((backTo cpos (starEach [e] X.env)).all (fun x => !x.1) && (backToKw cpos (keywordEach [] X.env)).all (fun x => x.1.isSome) && decide ([e].length + ([] : List Keyword).length + (if ([] : List Keyword).isEmpty then 0 else 1) < 30)) = true := by rfl)
    (hline : (apos.endLine == cpos.line) = true := by rfl) (hs : starEach [e] X.env = (false, eval e X.env) :: starEach [] X.env := by rfl) (hpl : (backTo cpos (starEach [] X.env)).any (·.1) = false := by rfl) :
    PE X (.Call (.Attribute o "add" apos) [e] [] cpos) (tSAddK P w to t) := by
  subst hP hw
  exact pe_saddK ho ha hbase hfew hline hs hpl
theorem pe_addTP {X : Cx} {P : Program} {w : World} {o e : Expr} {to : TE} {t : TA} {apos cpos : Pos} (hu : X.A.units + 8 < cLine) (ho : PE X o to) (ha : PA X [e] t) (hP : X.prog = P := by rfl) (hw : X.w = w := by rfl) (hbase : attributeBase o "add" X.env (eval o X.env) = eval o X.env := by rfl)
    (hfew : ((backTo cpos (starEach [e] X.env)).all (fun x => !x.1) && (backToKw cpos (keywordEach [] X.env)).all (fun x => x.1.isSome) && decide ([e].length + ([] : List Keyword).length + (if ([] : List Keyword).isEmpty then 0 else 1) < 30)) = true := by rfl)
    (hline : (apos.endLine == cpos.line) = true := by rfl) (hs : starEach [e] X.env = (false, eval e X.env) :: starEach [] X.env := by rfl) (hpl : (backTo cpos (starEach [] X.env)).any (·.1) = false := by rfl) :
    PE X (.Call (.Attribute o "add" apos) [e] [] cpos) (tAddT P w to t) := by
  subst hP hw
  exact pe_addT hu ho ha hbase hfew hline hs hpl
theorem pg_tupK {X : Cx} {K : PySem.W.Frag} {es : List Expr} {k : Nat} {pos : Pos} {t : TGs} {n : Nat} (hc : X.calm = true) (h : PGs X es t) (hn : (assignEach es X.env).length = n := by rfl) (hst : (assignEach es X.env).findIdx? (·.1) = none := by rfl) (hk : X.K = K := by rfl) : PG X (.Tuple es k pos) (gTup K n t) := hk ▸ pg_tup hc h hn hst
theorem pi_ownK {X : Cx} {K : PySem.W.Frag} {CX : CXT} {n : Nat} {C f : Addr} {fd : FuncData} {ps : List Str} {E : XK} {R : Addr → Addr → Hp → Prop} {tg e : Expr} {te : TE} (S : Sm K C "__iter__" f) (F : FnOkS X.prog X.w K X.mg X.base CX n f fd ps (spIter K R)) (hr : Room n X.A) (hb : Binds K fd ps []) (hx : Passes CX X E) (he : PE X e te) (h : X.K = K := by rfl) : PI X tg e (iOwn C K R te) := by
  subst h
  exact pi_own S F hr hb hx he
theorem pi_zipOK {X : Cx} {K : PySem.W.Frag} {CX : CXT} {n : Nat} {C f : Addr} {fd : FuncData} {ps : List Str} {E : XK} {R : Addr → Addr → Hp → Prop} {e e2 : Expr} {ta : TA} {p pos tpos : Pos} {elts : List Expr} {kk : Nat} (S : Sm K C "__iter__" f) (F : FnOkS X.prog X.w K X.mg X.base CX n f fd ps (spIter K R)) (hr : Room (n + 3) X.A) (hb : Binds K fd ps []) (hx : Passes CX X E)
    (hg : Gl X "zip") (hm : X.mg "zip" = none) (ha : PA X [e, e2] ta) (h : X.K = K := by rfl) (hs : starEach [e, e2] X.env = (false, eval e X.env) :: starEach [e2] X.env := by rfl) (hpl : (backTo pos (starEach [e2] X.env)).any (·.1) = false := by rfl) :
    PI X (.Tuple elts kk tpos) (.Call (.Name "zip" p) [e, e2] [] pos) (iZipO C K R ta) := by
  subst h
  exact pi_zipO S F hr hb hx hg hm ha hs hpl
theorem op_eqOK {X : Cx} {K : PySem.W.Frag} {CX : CXT} {n : Nat} {C f : Addr} {fd : FuncData} {ps : List Str} {sp : Sp} {E : XK} (S : Sm K C "__eq__" f) (F : FnOk X.prog X.w K X.mg X.base CX n f fd ps sp) (hr : Room n X.A) (hb : Binds K fd ps []) (hx : Passes CX X E) (ns : PySem.W.notFirst K C (.type "str") = true) (ni : PySem.W.notFirst K C (.type "int") = true) (h : X.K = K := by rfl) : OpR X (compareOp .Eq) (rOwnC K C sp E fun c => c) := by
  subst h
  exact op_eqO S F hr hb hx ns ni
theorem op_neOK {X : Cx} {K : PySem.W.Frag} {CX : CXT} {n : Nat} {C f : Addr} {fd : FuncData} {ps : List Str} {sp : Sp} {E : XK} (N : NeC K C) (S : Sm K C "__eq__" f) (F : FnOk X.prog X.w K X.mg X.base CX n f fd ps sp) (hr : Room (n + 1) X.A) (hb : Binds K fd ps []) (hx : Passes CX X E) (h : X.K = K := by rfl) : OpR X (compareOp .NotEq) (rOwnC K C sp E fun c => !c) := by
  subst h
  exact op_neO N S F hr hb hx
/-! ### for x in a tuple -/
theorem pi_tupK {X : Cx} {K : PySem.W.Frag} {tg l : Expr} {tl : TE} (hl : PE X l tl) (h : X.K = K := by rfl) : PI X tg l (iTup K tl) := h ▸ pi_tup hl
def LoopT (K : PySem.W.Frag) (a : Addr) (g : TG) (tb : TS) (D : Ends) (σ : L2.St) (H : Hp) : Prop := ∃ W : Nat → Nat → L2.St → Hp → Prop, (∃ m, W 0 m σ H) ∧ ∀ i m σ H, W i m σ H →
  ((Itt K a).stop i H ∧ D.nx σ H) ∨ ((Itt K a).go i H ∧ ∃ N : L2.St → Hp → Prop, (∀ σ' H', N σ' H' → ∃ m', m' < m ∧ W (i + 1) m' σ' H') ∧ ∀ x H', (Itt K a).yld i H x H' → g x σ H' fun σ2 H2 => tb { D with nx := N, ct := N, bk := D.nx } σ2 H2)
theorem forT_eq {K : PySem.W.Frag} {te : TE} {g : TG} {tb : TS} {D : Ends} {σ : L2.St} {H : Hp} : tFor (iTup K te) g tb D σ H = te σ H (fun v H1 => ∃ a, v = V.ref a ∧ ∃ xs, SqT K H1 a xs ∧ LoopT K a g tb D σ H1) := by
  show te σ H _ = te σ H _
  congr 1
  funext v H1
  exact propext ⟨fun ⟨a, e, ⟨xs, h⟩, q⟩ => ⟨a, e, xs, h, q⟩, fun ⟨a, e, xs, h, q⟩ => ⟨a, e, ⟨xs, h⟩, q⟩⟩
theorem r_tup {K : PySem.W.Frag} {a : Addr} (xs : List V) {g : TG} {tb : TS} {D : Ends} {σ : L2.St} {H : Hp} (Pv : Nat → L2.St → Hp → Prop) (h0 : Pv 0 σ H) (hl : ∀ i σ H, i ≤ xs.length → Pv i σ H → SqT K H a xs)
    (hs : ∀ i x σ H, xs[i]? = some x → Pv i σ H → ∀ N : L2.St → Hp → Prop, (∀ σ H, Pv (i + 1) σ H → N σ H) → g x σ H fun σ2 H2 => tb { D with nx := N, ct := N, bk := D.nx } σ2 H2) (hd : ∀ σ H, Pv xs.length σ H → D.nx σ H) : LoopT K a g tb D σ H :=
  for_tup Pv h0 hl (fun i x σ H hi hp => hs i x σ H hi hp _ (fun _ _ h => h)) hd
/-! ### dict comprehensions, folded -/
def DcJ (J : It) (g : TG) (tk tv : TE) (vs : List Nat) (σ : L2.St) (H1 : Hp) (D : Addr) (Q : Hp → Prop) : Prop := ∃ W : Nat → Nat → Hp → Prop, (∃ m, W 0 m (L2.upd H1 D (.dK []))) ∧ ∀ i m G, W i m G →
  (J.stop i G ∧ Q G) ∨ (J.go i G ∧ ∃ Nx : Hp → Prop, (∀ G', Nx G' → ∃ m', m' < m ∧ W (i + 1) m' G') ∧ ∀ x G', J.yld i G x G' → g x (wipe σ vs) G' fun ω G2 => wipe ω vs = wipe σ vs ∧ tYes ω G2 fun b G3 =>
    if b = true then tk ω G3 fun y G4 => tv ω G4 fun z G5 => ∃ kvs k, y = kV k ∧ G5 D = some (.dK kvs) ∧ kvs.length < sizeLine ∧ Nx (L2.upd G5 D (.dK (putK kvs k z))) else Nx G3)
theorem dcL_eq {K : PySem.W.Frag} {tl tk tv : TE} {g : TG} {vs : List Nat} {σ : L2.St} {H : Hp} {Q : VK} : tDc (iList K tl) g tYes tk tv vs σ H Q = tl σ H (fun v H1 => ∃ a, v = V.ref a ∧ ∃ xs, SqL K H1 a xs ∧ ∀ D, H1 D = none → DcJ (Itl K a) g tk tv vs σ H1 D (Q (.ref D))) := by
  show tl σ H _ = tl σ H _
  congr 1
  funext v H1
  exact propext ⟨fun ⟨a, e, ⟨xs, h⟩, q⟩ => ⟨a, e, xs, h, q⟩, fun ⟨a, e, xs, h, q⟩ => ⟨a, e, ⟨xs, h⟩, q⟩⟩
theorem dcZ_eq {C : Addr} {K : PySem.W.Frag} {R : Addr → Addr → Hp → Prop} {ta : TA} {tk tv : TE} {g : TG} {vs : List Nat} {σ : L2.St} {H : Hp} {Q : VK} : tDc (iZipO C K R ta) g tYes tk tv vs σ H Q =
    ta σ H (fun us H1 => ∃ a dx fs l zs x, us = [.ref a, .str x] ∧ H1 a = some (.ins C dx fs) ∧ R a l H1 ∧ SqL K H1 l zs ∧ (∃ o, H1 l = some o) ∧ ∀ D, H1 D = none → DcJ (ItzO K l x) g tk tv vs σ H1 D (Q (.ref D))) := rfl
theorem lcO_eq {C : Addr} {K : PySem.W.Frag} {R : Addr → Addr → Hp → Prop} {tl te : TE} {g : TG} {tt : TT} {vs : List Nat} {σ : L2.St} {H : Hp} {Q : VK} : tLc (iOwn C K R tl) g tt te vs σ H Q =
    tl σ H (fun v H1 => ∃ a dx fs l zs, v = .ref a ∧ H1 a = some (.ins C dx fs) ∧ R a l H1 ∧ SqL K H1 l zs ∧ ∀ D, H1 D = none → LcT (Itl K l) g tt te vs σ H1 D (Q (.ref D))) := rfl
section
variable {tk tv : TE} {vs : List Nat} {σ : L2.St} {H1 : Hp} {D : Addr} {Qd : Hp → Prop}
theorem r_dcL {K : PySem.W.Frag} {a : Addr} {j : Nat} (xs : List V) (Pv : Nat → Hp → Prop) (hw : ∀ x, wipe ((wipe σ vs).set j (some x)) vs = wipe σ vs) (h0 : Pv 0 (L2.upd H1 D (.dK []))) (hl : ∀ i H, i ≤ xs.length → Pv i H → SqL K H a xs)
    (hs : ∀ i x H, xs[i]? = some x → Pv i H → ∀ (N : V → VK), (∀ k z H5 kvs, H5 D = some (.dK kvs) → kvs.length < sizeLine → Pv (i + 1) (L2.upd H5 D (.dK (putK kvs k z))) → N (kV k) z H5) → tk ((wipe σ vs).set j (some x)) H fun y H4 => tv ((wipe σ vs).set j (some x)) H4 (N y))
    (hd : ∀ H, Pv xs.length H → Qd H) : DcJ (Itl K a) (gName j) tk tv vs σ H1 D Qd := by
  refine ⟨fun i m H => m = xs.length - i ∧ i ≤ xs.length ∧ Pv i H, ⟨_, rfl, Nat.zero_le _, h0⟩, ?_⟩
  rintro i m H ⟨rfl, hi, p⟩
  have q := hl i H hi p
  by_cases hlt : i < xs.length
  · refine .inr ⟨⟨xs, xs[i], q, List.getElem?_eq_getElem hlt⟩, Pv (i + 1), fun H' p' => ⟨xs.length - (i + 1), by omega, rfl, hlt, p'⟩, fun x H' y => ?_⟩
    obtain ⟨e, y⟩ := y
    subst e
    refine ⟨hw x, ?_⟩
    simp only [tYes, if_pos]
    exact hs i x _ (y xs q) p (fun y z H5 => ∃ kvs k, y = kV k ∧ H5 D = some (.dK kvs) ∧ kvs.length < sizeLine ∧ Pv (i + 1) (L2.upd H5 D (.dK (putK kvs k z)))) fun k z H5 kvs h1 h2 h3 => ⟨kvs, k, rfl, h1, h2, h3⟩
  · have e : i = xs.length := by omega
    subst e
    exact .inl ⟨⟨xs, q, Nat.le_refl _⟩, hd H p⟩
theorem r_dcZ {K : PySem.W.Frag} {l : Addr} {j1 j2 : Nat} (xs : List V) (z : Str) (hlen : xs.length = z.cps.toList.length) (Pv : Nat → Hp → Prop) (hw : ∀ x y, wipe (((wipe σ vs).set j1 (some x)).set j2 (some y)) vs = wipe σ vs) (h0 : Pv 0 (L2.upd H1 D (.dK []))) (hl : ∀ i H, i ≤ xs.length → Pv i H → SqL K H l xs)
    (hp : ∀ i H t x y, Pv i H → H t = none → Pv i (L2.upd H t (.tup [x, y])))
    (hs : ∀ i x c H, xs[i]? = some x → z.cps.toList[i]? = some c → Pv i H → ∀ (N : V → VK), (∀ k u H5 kvs, H5 D = some (.dK kvs) → kvs.length < sizeLine → Pv (i + 1) (L2.upd H5 D (.dK (putK kvs k u))) → N (kV k) u H5) → tk (((wipe σ vs).set j1 (some x)).set j2 (some (.str ⟨#[c]⟩))) H fun y H4 => tv (((wipe σ vs).set j1 (some x)).set j2 (some (.str ⟨#[c]⟩))) H4 (N y))
    (hd : ∀ H, Pv xs.length H → Qd H) : DcJ (ItzO K l z) (gTup K 2 (gCons (gName j1) (gCons (gName j2) gNil))) tk tv vs σ H1 D Qd := by
  have hz : z.cps.toList.length = z.cps.size := Array.length_toList
  refine ⟨fun i m H => m = xs.length - i ∧ i ≤ xs.length ∧ Pv i H, ⟨_, rfl, Nat.zero_le _, h0⟩, ?_⟩
  rintro i m H ⟨rfl, hi, p⟩
  have q := hl i H hi p
  by_cases hlt : i < xs.length
  · refine .inr ⟨⟨xs, xs[i], q, List.getElem?_eq_getElem hlt, by omega⟩, Pv (i + 1), fun H' p' => ⟨xs.length - (i + 1), by omega, rfl, hlt, p'⟩, fun x H' y => ?_⟩
    obtain ⟨T, a, c, rfl, hT, rfl, h1, h2⟩ := y
    refine ⟨T, [a, .str ⟨#[c]⟩], rfl, .inl (.inl upd_same), rfl, a, [.str ⟨#[c]⟩], rfl, _, [], rfl, rfl, hw _ _, ?_⟩
    simp only [tYes, if_pos]
    exact hs i a c _ (h1 xs q) (by rw [Array.getElem?_toList]; exact h2) (hp i H T _ _ p hT) (fun y z H5 => ∃ kvs k, y = kV k ∧ H5 D = some (.dK kvs) ∧ kvs.length < sizeLine ∧ Pv (i + 1) (L2.upd H5 D (.dK (putK kvs k z)))) fun k z H5 kvs h1 h2 h3 => ⟨kvs, k, rfl, h1, h2, h3⟩
  · have e : i = xs.length := by omega
    subst e
    exact .inl ⟨⟨xs, q, rfl, by omega⟩, hd H p⟩
end
/-! ### for i, c in enumerate(text) -/
def LoopE (z : Str) (g : TG) (tb : TS) (D : Ends) (σ : L2.St) (H : Hp) : Prop := ∃ W : Nat → Nat → L2.St → Hp → Prop, (∃ m, W 0 m σ H) ∧ ∀ i m σ H, W i m σ H →
  ((IteS z).stop i H ∧ D.nx σ H) ∨ ((IteS z).go i H ∧ ∃ N : L2.St → Hp → Prop, (∀ σ' H', N σ' H' → ∃ m', m' < m ∧ W (i + 1) m' σ' H') ∧ ∀ x H', (IteS z).yld i H x H' → g x σ H' fun σ2 H2 => tb { D with nx := N, ct := N, bk := D.nx } σ2 H2)
theorem forE_eq {ta : TA} {g : TG} {tb : TS} {D : Ends} {σ : L2.St} {H : Hp} : tFor (iEnumS ta) g tb D σ H = ta σ H (fun vs H1 => ∃ z, vs = [V.str z] ∧ LoopE z g tb D σ H1) := rfl
theorem r_enumS {K : PySem.W.Frag} {j1 j2 : Nat} (z : Str) {tb : TS} {D : Ends} {σ : L2.St} {H : Hp} (Pv : Nat → L2.St → Hp → Prop) (h0 : Pv 0 σ H) (hp : ∀ i σ H t x y, Pv i σ H → H t = none → Pv i σ (L2.upd H t (.tup [x, y])))
    (hs : ∀ i c σ H, z.cps.toList[i]? = some c → Pv i σ H → ∀ N : L2.St → Hp → Prop, (∀ σ H, Pv (i + 1) σ H → N σ H) → tb { D with nx := N, ct := N, bk := D.nx } ((σ.set j1 (some (.int (i : Nat)))).set j2 (some (.str ⟨#[c]⟩))) H) (hd : ∀ σ H, Pv z.cps.toList.length σ H → D.nx σ H) :
    LoopE z (gTup K 2 (gCons (gName j1) (gCons (gName j2) gNil))) tb D σ H := by
  have hz : z.cps.toList.length = z.cps.size := Array.length_toList
  refine ⟨fun i m σ H => m = z.cps.toList.length - i ∧ i ≤ z.cps.toList.length ∧ Pv i σ H, ⟨_, rfl, Nat.zero_le _, h0⟩, ?_⟩
  rintro i m σ H ⟨rfl, hi, p⟩
  by_cases hlt : i < z.cps.toList.length
  · refine .inr ⟨by show i < z.cps.size; omega, Pv (i + 1), fun σ' H' p' => ⟨z.cps.toList.length - (i + 1), by omega, rfl, hlt, p'⟩, fun x H' y => ?_⟩
    obtain ⟨T, c, rfl, hT, rfl, h2⟩ := y
    exact ⟨T, [.int (i : Nat), .str ⟨#[c]⟩], rfl, .inl (.inl upd_same), rfl, _, [.str ⟨#[c]⟩], rfl, _, [], rfl, rfl, hs i c σ _ (by rw [Array.getElem?_toList]; exact h2) (hp i σ H T _ _ p hT) _ fun _ _ h => h⟩
  · have e : i = z.cps.toList.length := by omega
    subst e
    exact .inl ⟨by show z.cps.toList.length = z.cps.size; omega, hd σ H p⟩
end K01
namespace K01
open PySem PySem.Spec PyProof.Rows L2 TL HotExc Tw WX
local macro_rules | `(tactic| walk_at "rd") => `(tactic| simp only [start1, wipe, isR, isBool, isInt, isStr, isLst, isTup, tAsg, gName, gSub, tVar, tC, tOp, tUn, tTest, tIfS, tRet, tRetN, tDrop, tB, tAnd, tOr, tNot, tAndV, tOrV, tNotV, tIf, tCB, tCons, tNil, tNext, tCall, tBM, tTup, tLst, rU, rInW, rNinW, Int.reduceNeg, tG, tG2, sP, tFldC, sFldC, tProp, tMeth, tMake, rOwnC, rLenO, rIsC, rNoT, tAddT, tSAddK, rSAddK, rSInK, rSet0K, rSet0T, rMinS, rMaxS, rSortedQ, rSortedT, rEqD, rNeD, rIxD, dcL_eq, dcZ_eq, lcO_eq, forE_eq, forT_eq, lcS_eq, ItX.rIterN, iOwn, List.append_nil, tDisp, tPairs, tCallS, tCallSD, tCallT, StX.tStar, tCallK, tCallKS, rTupOf, tDrop, rI0, rI, rEq, rNe, scal, forR_eq, forR2_eq, forS_eq, forL_eq, lcT_eq, lcRT_eq, lcS_eq, rLenX, rLenS, rListOf, tRevL, rMulS, rRepL, rCatL, rSumN, rMaxN, tBM0, rPop, tAug, ipI,  tPart, tNoPart, CwR.tReplC, rAllK, rInSg, rNinSg, sgn_inj, rAddS, rInSt, tChain, tM1, tM0, rSplitN, rJoinN, exists_eq, rIntI, rIntB, rIntS, rStrI, rAbs, rOrd, rMin, rMax, rIxL, rIxX, rSetL, rAppend, rIxS, rSlS, rSlL, tSl, List.map_cons, List.map_nil, List.replicate_succ, List.replicate_zero, List.length_cons, List.length_nil, Nat.reduceSub, Nat.reduceAdd, Nat.zero_add, Nat.sub_self, List.getElem?_cons_zero, List.getElem?_cons_succ, List.set_cons_zero, List.set_cons_succ, List.append_nil, List.nil_append, List.cons_append, Option.some.injEq, not_true_eq_false, reduceCtorEq, exists_eq_left', exists_eq_left, exists_eq', exists_and_left, exists_and_right, V.int.injEq, V.str.injEq, V.bl.injEq, V.ref.injEq, List.cons.injEq, and_true, true_and, and_assoc, decide_eq_true_eq, Bool.not_eq_true', decide_eq_false_iff_not, ite_true, ite_false, if_true, if_false, Bool.not_true, Bool.not_false, Bool.false_eq_true, eq_self_iff_true, reduceIte, ne_eq, Int.reduceEq, not_false_eq_true])
local macro_rules | `(tactic| walk_at "rt") => `(tactic| try walk_at "rd")
local macro_rules | `(tactic| walk_at "st") => `(tactic| (walk_at "rt"; refine r_seq ?_; walk_at "rt"))
local macro_rules | `(tactic| walk_at "hp") => `(tactic| first | assumption | exact upd_same | (rw [upd_ne (by assumption)]; walk_at "hp"))
local macro_rules | `(tactic| walk_at "ex1") => `(tactic| ((with_reducible refine Exists.intro ?w (And.intro ?hx ?_)); (case hx => first | exact sq_of (by walk_at "hp") | exact .inl (sq_of (by walk_at "hp")) | exact rfl | (show _ = some (HO.lst _); walk_at "hp"))))
local macro_rules | `(tactic| walk_at "ex") => `(tactic| repeat (first | walk_at "ex1" | walk_at "rd"))
abbrev s_isname : Stmt := topS 32
theorem sc_isname : FnScope ["text", "letter"] ["text"] (defScope s_isname) := ⟨rfl, rfl, rfl, by decide +kernel, rfl, by decide +kernel, by decide +kernel⟩
abbrev s_orderedpair : Stmt := topS 35
theorem sc_orderedpair : FnScope ["one", "two"] ["one", "two"] (defScope s_orderedpair) := ⟨rfl, rfl, rfl, by decide +kernel, rfl, by decide +kernel, by decide +kernel⟩
abbrev s_checkplaces : Stmt := topS 37
theorem sc_checkplaces : FnScope ["places", "place"] ["places"] (defScope s_checkplaces) := ⟨rfl, rfl, rfl, by decide +kernel, rfl, by decide +kernel, by decide +kernel⟩
abbrev s_checkties : Stmt := topS 38
theorem sc_checkties : FnScope ["places", "ties", "pair", "place", "one", "two"] ["places", "ties"] (defScope s_checkties) := ⟨rfl, rfl, rfl, by decide +kernel, rfl, by decide +kernel, by decide +kernel⟩
/-- a text that is a place name -/
def Nam (x : Str) : Prop := nm (tl x)
def ordP (e : Str × Str) : Str × Str := if e.1.cps.toList < e.2.cps.toList then (e.1, e.2) else (e.2, e.1)
/-- what places and ties must be -/
structure Fit (Ps : List Str) (E : List (Str × Str)) : Prop where
  ne : Ps ≠ []
  p20 : Ps.length ≤ 20
  pnd : Ps.Nodup
  nam : ∀ x ∈ Ps, Nam x
  e60 : E.length ≤ 60
  inP : ∀ e ∈ E, e.1 ∈ Ps ∧ e.2 ∈ Ps
  dif : ∀ e ∈ E, e.1 ≠ e.2
  end' : (E.map ordP).Nodup
def spIsN : Sp := fun vs H Q _ => ∃ z : Str, vs = [.str z] ∧ Nam z ∧ ∀ H', Keeps H H' → Q (.bl true) H'
def spOrd : Sp := fun vs H Q _ => ∃ x y : Str, vs = [.str x, .str y] ∧ ∀ p, H p = none → Q (.ref p) (L2.upd H p (.tup [.str (ordP (x, y)).1, .str (ordP (x, y)).2]))
def spCkP : Sp := fun vs H Q _ => ∃ (p : Addr) (Ps : List Str), vs = [.ref p] ∧ H p = some (.lst (Ps.map V.str)) ∧ Ps ≠ [] ∧ Ps.length ≤ 20 ∧ (∀ x ∈ Ps, Nam x) ∧ ∀ H', Keeps H H' → Q .non H'
/-- places and ties as they are handed in -/
def Args (H : Hp) (p t : Addr) (Ps : List Str) (E : List (Str × Str)) : Prop := H p = some (.lst (Ps.map V.str)) ∧ ∃ vs, H t = some (.lst vs) ∧ PT H E vs
theorem Args.keep {H H' : Hp} {p t : Addr} {Ps : List Str} {E : List (Str × Str)} (h : Args H p t Ps E) (k : Keeps H H') : Args H' p t Ps E := ⟨k _ _ h.1, let ⟨vs, h1, h2⟩ := h.2; ⟨vs, k _ _ h1, h2.keep fun t xs e => k _ _ e⟩⟩
def spCkT : Sp := fun vs H Q _ => ∃ (p t : Addr) (Ps : List Str) (E : List (Str × Str)), vs = [.ref p, .ref t] ∧ Args H p t Ps E ∧ Fit Ps E ∧ ∀ H', Keeps H H' → Q .non H'
theorem tup_at {K : PySem.W.Frag} {H : Hp} {t : Addr} {xs : List V} (h : H t = some (.tup xs)) : SqT K H t xs := .inl (.inl h)
theorem get_map {α β : Type} {l : List α} {f : α → β} {i : Nat} {y : β} (h : (l.map f)[i]? = some y) : ∃ x, l[i]? = some x ∧ y = f x := by
  rw [List.getElem?_map] at h
  cases e : l[i]? with
  | none => rw [e] at h; cases h
  | some x => rw [e] at h; exact ⟨x, rfl, (Option.some.inj h).symm⟩
section
variable {P : Program} {w : World} {K : PySem.W.Frag} {mg : Str → Option Value} {base : Heap}
theorem ok_isname2 {f : Addr} {fd : FuncData} (B : Bi mg) {t1 t2 t3 : Tok} (D : Dn K mg "is_name" s_isname ["text"] f fd) (gc_LONGEST_NAME : mg "LONGEST_NAME" = some (.int 6 t1))
    (gc_LETTERS : mg "LETTERS" = some (.str (Str.ofString "abcdefghijklmnopqrstuvwxyz") t2)) (gc_DIGITS : mg "DIGITS" = some (.str (Str.ofString "0123456789") t3)) : FnOk P w K mg base CX0 1 f fd ["text"] spIsN := by
  refine D.F.ok sc_isname (fun vs H Q E h => ?_) (fun cdv A outer s H vs Q E hr h => ?_)
  · obtain ⟨z, rfl, _⟩ := h
    rfl
  · obtain ⟨z, rfl, hz, q⟩ := h
    refine ⟨_, (pss_cons (ps_if (PW.pt (pw_or (pt_not (pt_chain op_le op_le pe_int (pe_callB call_lenS (by rfl) B.len PySem.boot_len (pa_cons (pv 0) pa_nil)) (pe_glob (v := .int 6) (by rfl) gc_LONGEST_NAME ⟨_, rfl⟩))) (pw_or1 (pt_cmpR op_ninSg (pe_ix ix_str (pv 0) pe_int (fun _ _ => rfl)) (pe_glob (v := .str (Str.ofString "abcdefghijklmnopqrstuvwxyz")) (by rfl) gc_LETTERS ⟨_, rfl⟩) (by rfl))))) (pss_one (ps_ret pe_bl)) pss_nil)
      (pss_one (ps_ret (pe_callB (call_allK (K := K)) (by rfl) B.all (by decide +kernel) (pa_cons (pe_lc (own := [("letter", 1)]) (g := gName 1) (tt := tYes) (by rfl) sc_isname.nd (pi_str (pv 0)) (blkOk_by (own := [("letter", 1)]) (N := ["text", "letter"]) (sc := defScope s_isname) (by decide +kernel)) (fun _ _ _ _ _ => pg_name (i := 1) sc_isname.nd rfl (Or.inl rfl)) (fun _ _ _ _ _ => pts_nil) (fun _ _ _ _ _ => (pe_or (pe_cmpR op_inSg (pv 1) (pe_glob (v := .str (Str.ofString "abcdefghijklmnopqrstuvwxyz")) (by rfl) gc_LETTERS ⟨_, rfl⟩) (by rfl)) (pe_one (pe_cmpR op_inSg (pv 1) (pe_glob (v := .str (Str.ofString "0123456789")) (by rfl) gc_DIGITS ⟨_, rfl⟩) (by rfl)))))) pa_nil))))), ?_⟩
    walk_at "st"
    have hlen : z.length = (tl z).length := len_tl z
    obtain ⟨c, r, hc⟩ : ∃ c r, tl z = c :: r := by
      cases h : tl z with
      | nil => exact absurd h (nm_ne hz)
      | cons c r => exact ⟨c, r, rfl⟩
    have hz' : nm (c :: r) := hc ▸ hz
    obtain ⟨z1, z2, z3⟩ := hz'
    have hl2 : (tl z).length = r.length + 1 := by rw [hc]; rfl
    refine ⟨line_of (by omega), ite2 (fun h1 => ite2 (fun h6 => absurd h6 (by omega)) (fun h6 => ?_)) (fun h1 => absurd h1 (by omega))⟩
    refine ⟨line_of (by omega), c, by show atI (tl z) ((0 : Nat) : Int) = _; rw [hc]; exact atI_nat rfl, ite2 (fun hl => absurd ((letm c).mpr z1) hl) (fun hl => ?_)⟩
    intro D nD
    refine r_lcS z (fun i H' => H' D = some (.lst ((List.replicate i true).map V.bl)) ∧ Keeps H H') (fun x => rfl) ⟨upd_same, Keeps.new nD⟩ ?_ ?_
    · rintro i d H2 hd ⟨hD, kp⟩ N k
      walk_at "rt"
      have hd : (tl z)[i]? = some d := hd
      have hi := lt_of_get hd
      have hld : lod d := nm_mem hz (List.mem_of_getElem? hd)
      have key : N (V.bl true) H2 := k _ _ _ hD (size_ok (by rw [List.length_map, List.length_replicate]; omega)) ⟨by rw [upd_same, List.replicate_succ', List.map_append]; rfl, kp.put nD⟩
      refine ite2 (fun h => key) (fun h => ?_)
      rw [letm] at h
      have : (48 ≤ d ∧ d ≤ 57) := hld.elim (fun z => absurd z h) id
      rw [show (decide (d ∈ (Str.ofString "0123456789").cps.toList)) = true from decide_eq_true ((digm d).mpr this)]
      exact key
    · rintro H2 ⟨hD, kp⟩
      refine ⟨_, sq_of hD, ?_⟩
      rw [show (List.replicate z.cps.toList.length true).all id = true by simp]
      exact q H2 kp
theorem ok_ord {f : Addr} {fd : FuncData} (D : Dn K mg "ordered_pair" s_orderedpair ["one", "two"] f fd) : FnOk P w K mg base CX0 1 f fd ["one", "two"] spOrd := by
  refine D.F.ok sc_orderedpair (fun vs H Q E h => ?_) (fun cdv A outer s H vs Q E hr h => ?_)
  · obtain ⟨x, y, rfl, _⟩ := h
    rfl
  · obtain ⟨x, y, rfl, q⟩ := h
    refine ⟨_, (pss_cons (ps_if (pt_cmpR op_lt_str (pv 0) (pv 1) (nomark _)) (pss_one (ps_ret (pe_tup (pa_cons (pv 0) (pa_cons (pv 1) pa_nil))))) pss_nil)
      (pss_one (ps_ret (pe_tup (pa_cons (pv 1) (pa_cons (pv 0) pa_nil)))))), ?_⟩
    walk_at "st"
    refine ite2 (fun h => ⟨line_of (by decide), fun p hp => ?_⟩) (fun h => ⟨line_of (by decide), fun p hp => ?_⟩)
    · have := q p hp
      simp only [ordP, if_pos h] at this
      exact this
    · have := q p hp
      simp only [ordP, if_neg h] at this
      exact this
theorem ok_ckp {f f_isname : Addr} {fd fd_isname : FuncData} (B : Bi mg) (D : Dn K mg "check_places" s_checkplaces ["places"] f fd) (D_isname : Dn K mg "is_name" s_isname ["text"] f_isname fd_isname) (G_isname : FnOk P w K mg base CX0 1 f_isname fd_isname ["text"] spIsN) : FnOk P w K mg base CX0 2 f fd ["places"] spCkP := by
  refine D.F.ok sc_checkplaces (fun vs H Q E h => ?_) (fun cdv A outer s H vs Q E hr h => ?_)
  · obtain ⟨p, Ps, rfl, _⟩ := h
    rfl
  · obtain ⟨p, Ps, rfl, hp, hne, h20, hn, q⟩ := h
    refine ⟨_, (pss_cons (ps_if (pt_cmpR op_eq (pe_callB (call_lenXK (K := K)) (by rfl) B.len PySem.boot_len (pa_cons (pv 0) pa_nil)) pe_int (nomark _)) (pss_one ps_never) pss_nil)
      (pss_one (ps_for PassesOwn.never rfl (pi_listK (K := K) (pv 0)) (pg_name (i := 1) sc_checkplaces.nd rfl (.inl rfl)) (pss_one (ps_if (pt_not (pt_val (pe_call G_isname (hr.mono (by omega)) (by rfl) D_isname.g D_isname.F.kp D_isname.b .nil pass0 (pa_cons (pv 1) pa_nil)))) (pss_one ps_never) pss_nil))))), ?_⟩
    walk_at "st"
    have hpos := List.length_pos_iff.mpr hne
    refine ⟨_, .inl (sq_of hp), ite2 (fun h => absurd h (by rw [List.length_map]; omega)) (fun _ => ⟨⟨_, sq_of hp⟩, ?_⟩)⟩
    refine r_list (Ps.map V.str) (fun i σ H' => (∃ x, σ = [some (.ref p), x]) ∧ Keeps H H') ⟨⟨_, rfl⟩, Keeps.refl H⟩ (fun i σ H' _ h => sq_of (h.2 _ _ hp)) ?_ ?_
    · rintro i v σ H' hx ⟨⟨x, rfl⟩, k⟩ N kk
      obtain ⟨z, hz, rfl⟩ := get_map hx
      walk_at "rt"
      exact ⟨z, rfl, hn z (List.mem_of_getElem? hz), fun H2 k2 => ⟨_, rfl, ite2 (fun h => absurd h (by decide)) (fun _ => kk _ _ ⟨⟨_, rfl⟩, k.trans k2⟩)⟩⟩
    · rintro σ H' ⟨⟨x, rfl⟩, k⟩
      exact q H' k
theorem ok_ckt {f : Addr} {fd : FuncData} (B : Bi mg) {t1 t2 : Tok} (D : Dn K mg "check_ties" s_checkties ["places", "ties"] f fd) (gc_MOST_PLACES : mg "MOST_PLACES" = some (.int 20 t1)) (gc_MOST_TIES : mg "MOST_TIES" = some (.int 60 t2)) : FnOk P w K mg base CX0 2 f fd ["places", "ties"] spCkT := by
  refine D.F.ok sc_checkties (fun vs H Q E h => ?_) (fun cdv A outer s H vs Q E hr h => ?_)
  · obtain ⟨p, t, Ps, E', rfl, _⟩ := h
    rfl
  · obtain ⟨p, t, Ps, E', rfl, ⟨hp, vs, ht, hpt⟩, F, q⟩ := h
    refine ⟨_, (pss_cons (ps_if (pt_cmpR op_gt (pe_callB (call_lenXK (K := K)) (by rfl) B.len PySem.boot_len (pa_cons (pv 0) pa_nil)) (pe_glob (v := .int 20) (by rfl) gc_MOST_PLACES ⟨_, rfl⟩) (nomark _)) (pss_one ps_never) pss_nil)
      (pss_cons (ps_if (pt_cmpR op_gt (pe_callB (call_lenXK (K := K)) (by rfl) B.len PySem.boot_len (pa_cons (pv 1) pa_nil)) (pe_glob (v := .int 60) (by rfl) gc_MOST_TIES ⟨_, rfl⟩) (nomark _)) (pss_one ps_never) pss_nil)
      (pss_cons (ps_for PassesOwn.never rfl (pi_listK (K := K) (pv 1)) (pg_name (i := 2) sc_checkties.nd rfl (.inl rfl)) (pss_one (ps_for PassesOwn.never rfl (pi_tupK (K := K) (pv 2)) (pg_name (i := 3) sc_checkties.nd rfl (.inl rfl)) (pss_one (ps_if (pt_cmpR (op_ninW (K := K)) (pv 3) (pv 0) (by rfl)) (pss_one ps_never) pss_nil)))))
      (pss_one (ps_for PassesOwn.never rfl (pi_listK (K := K) (pv 1)) (pg_tupK (K := K) (n := 2) (by rfl) (pgs_cons (pg_name (i := 4) sc_checkties.nd rfl (.inl rfl)) (pgs_cons (pg_name (i := 5) sc_checkties.nd rfl (.inl rfl)) pgs_nil))) (pss_one (ps_if (pt_cmpR op_eq (pv 4) (pv 5) (nomark _)) (pss_one ps_never) pss_nil))))))), ?_⟩
    walk_at "st"
    have h20 := F.p20
    have h60 := F.e60
    refine ⟨_, .inl (sq_of hp), ite2 (fun h => absurd h (by rw [List.length_map]; omega)) (fun _ => ?_)⟩
    walk_at "st"
    refine ⟨_, .inl (sq_of ht), ite2 (fun h => absurd h (by rw [hpt.1]; omega)) (fun _ => ?_)⟩
    walk_at "st"
    refine ⟨⟨_, sq_of ht⟩, ?_⟩
    refine r_list vs (fun i σ H' => (∃ a b c d, σ = [some (.ref p), some (.ref t), a, b, c, d]) ∧ H' = H) ⟨⟨_, _, _, _, rfl⟩, rfl⟩ (fun i σ H' _ h => h.2 ▸ sq_of ht) ?_ ?_
    · rintro i v σ H' hx ⟨⟨a, b, c, d, rfl⟩, rfl⟩ N kk
      have hi : i < E'.length := by have := lt_of_get hx; have := hpt.1; omega
      obtain ⟨u, rfl, hu⟩ := hpt.2 i _ v (List.getElem?_eq_getElem hi) hx
      have hm := F.inP _ (List.getElem_mem hi)
      walk_at "rt"
      refine ⟨⟨_, tup_at hu⟩, ?_⟩
      refine r_tup [.str E'[i].1, .str E'[i].2] (fun i σ H2 => (∃ b c d, σ = [some (.ref p), some (.ref t), some (.ref u), b, c, d]) ∧ H2 = H') ⟨⟨_, _, _, rfl⟩, rfl⟩ (fun j σ H2 _ h => h.2 ▸ tup_at hu) ?_ ?_
      · rintro j v σ H2 hv ⟨⟨b, c, d, rfl⟩, rfl⟩ N2 kk2
        have : ∃ z : Str, v = .str z ∧ z ∈ Ps := by
          have := List.mem_of_getElem? hv
          simp only [List.mem_cons, List.not_mem_nil, or_false] at this
          rcases this with e | e
          · exact ⟨_, e, hm.1⟩
          · exact ⟨_, e, hm.2⟩
        obtain ⟨z, rfl, hz⟩ := this
        walk_at "rt"
        refine ⟨_, .inl (sq_of hp), ?_⟩
        exact ite2 (fun h => absurd hz h) (fun _ => kk2 _ _ ⟨⟨_, _, _, rfl⟩, rfl⟩)
      · rintro σ H2 ⟨⟨b, c, d, rfl⟩, rfl⟩
        exact kk _ _ ⟨⟨_, _, _, _, rfl⟩, rfl⟩
    · rintro σ H' ⟨⟨a, b, c, d, rfl⟩, rfl⟩
      walk_at "rt"
      refine ⟨⟨_, sq_of ht⟩, ?_⟩
      refine r_list vs (fun i σ H2 => (∃ a b c d, σ = [some (.ref p), some (.ref t), a, b, c, d]) ∧ H2 = H') ⟨⟨_, _, _, _, rfl⟩, rfl⟩ (fun i σ H2 _ h => h.2 ▸ sq_of ht) ?_ ?_
      · rintro i v σ H2 hx ⟨⟨a, b, c, d, rfl⟩, rfl⟩ N kk
        have hi : i < E'.length := by have := lt_of_get hx; have := hpt.1; omega
        obtain ⟨u, rfl, hu⟩ := hpt.2 i _ v (List.getElem?_eq_getElem hi) hx
        have hd := F.dif _ (List.getElem_mem hi)
        refine ⟨u, _, rfl, tup_at hu, rfl, _, _, rfl, _, _, rfl, rfl, ?_⟩
        walk_at "rt"
        exact ite2 (fun h => absurd h hd) (fun _ => kk _ _ ⟨⟨_, _, _, _, rfl⟩, rfl⟩)
      · rintro σ H2 ⟨⟨a, b, c, d, rfl⟩, rfl⟩
        exact q _ (Keeps.refl _)
end
end K01
namespace K01
open PySem PySem.Spec PyProof.Rows L2 TL HotExc Tw WX
local macro_rules | `(tactic| walk_at "rd") => `(tactic| simp only [start1, wipe, isR, isBool, isInt, isStr, isLst, isTup, tAsg, gName, gSub, tVar, tC, tOp, tUn, tTest, tIfS, tRet, tRetN, tDrop, tB, tAnd, tOr, tNot, tAndV, tOrV, tNotV, tIf, tCB, tCons, tNil, tNext, tCall, tBM, tTup, tLst, rU, rInW, rNinW, Int.reduceNeg, tG, tG2, sP, tFldC, sFldC, tProp, tMeth, tMake, rOwnC, rLenO, rIsC, rNoT, tAddT, tSAddK, rSAddK, rSInK, rSet0K, rSet0T, rMinS, rMaxS, rSortedQ, rSortedT, rEqD, rNeD, rIxD, dcL_eq, dcZ_eq, lcO_eq, forE_eq, forT_eq, lcS_eq, ItX.rIterN, iOwn, List.append_nil, tDisp, tPairs, tCallS, tCallSD, tCallT, StX.tStar, tCallK, tCallKS, rTupOf, tDrop, rI0, rI, rEq, rNe, scal, forR_eq, forR2_eq, forS_eq, forL_eq, lcT_eq, lcRT_eq, lcS_eq, rLenX, rLenS, rListOf, tRevL, rMulS, rRepL, rCatL, rSumN, rMaxN, tBM0, rPop, tAug, ipI,  tPart, tNoPart, CwR.tReplC, rAllK, rInSg, rNinSg, sgn_inj, rAddS, rInSt, tChain, tM1, tM0, rSplitN, rJoinN, exists_eq, rIntI, rIntB, rIntS, rStrI, rAbs, rOrd, rMin, rMax, rIxL, rIxX, rSetL, rAppend, rIxS, rSlS, rSlL, tSl, List.map_cons, List.map_nil, List.replicate_succ, List.replicate_zero, List.length_cons, List.length_nil, Nat.reduceSub, Nat.reduceAdd, Nat.zero_add, Nat.sub_self, List.getElem?_cons_zero, List.getElem?_cons_succ, List.set_cons_zero, List.set_cons_succ, List.append_nil, List.nil_append, List.cons_append, Option.some.injEq, not_true_eq_false, reduceCtorEq, exists_eq_left', exists_eq_left, exists_eq', exists_and_left, exists_and_right, V.int.injEq, V.str.injEq, V.bl.injEq, V.ref.injEq, List.cons.injEq, and_true, true_and, and_assoc, decide_eq_true_eq, Bool.not_eq_true', decide_eq_false_iff_not, ite_true, ite_false, if_true, if_false, Bool.not_true, Bool.not_false, Bool.false_eq_true, eq_self_iff_true, reduceIte, ne_eq, Int.reduceEq, not_false_eq_true])
local macro_rules | `(tactic| walk_at "rt") => `(tactic| try walk_at "rd")
local macro_rules | `(tactic| walk_at "st") => `(tactic| (walk_at "rt"; refine r_seq ?_; walk_at "rt"))
local macro_rules | `(tactic| walk_at "hp") => `(tactic| first | assumption | exact upd_same | (rw [upd_ne (by assumption)]; walk_at "hp"))
local macro_rules | `(tactic| walk_at "ex1") => `(tactic| ((with_reducible refine Exists.intro ?w (And.intro ?hx ?_)); (case hx => first | exact sq_of (by walk_at "hp") | exact .inl (sq_of (by walk_at "hp")) | exact rfl | (show _ = some (HO.lst _); walk_at "hp"))))
local macro_rules | `(tactic| walk_at "ex") => `(tactic| repeat (first | walk_at "ex1" | walk_at "rd"))
abbrev s_checkrepeats : Stmt := topS 39
theorem sc_checkrepeats : FnScope ["places", "ties", "names", "place", "pairs", "one", "two", "pair"] ["places", "ties"] (defScope s_checkrepeats) := ⟨rfl, rfl, rfl, by decide +kernel, rfl, by decide +kernel, by decide +kernel⟩

theorem keep_tup {H H' : Hp} {t : Addr} {xs : List V} {o : HO} {a : Addr} (k : ∀ b o, b ≠ a → H b = some o → H' b = some o) (ha : H a = some o) (ho : ∀ ys, o ≠ .tup ys) (ht : H t = some (.tup xs)) : H' t = some (.tup xs) :=
  k t _ (fun z => by rw [z, ha] at ht; exact ho xs (Option.some.inj ht)) ht
theorem take_new {α : Type} {l : List α} {i : Nat} {z : α} (nd : l.Nodup) (h : l[i]? = some z) : z ∉ l.take i := fun hm => by
  rw [← List.take_append_drop i l] at nd
  refine (List.nodup_append.mp nd).2.2 z hm z (List.mem_of_getElem? (i := 0) ?_) rfl
  rw [List.getElem?_drop]
  exact h
theorem take_snoc {α : Type} {l : List α} {i : Nat} {x : α} (h : l[i]? = some x) : l.take (i + 1) = l.take i ++ [x] := by rw [List.take_add_one, h]; rfl
def kp (e : Str × Str) : List Key := [Sum.inr e.1, Sum.inr e.2]
theorem kp_inj {e g : Str × Str} (h : kp e = kp g) : e = g := by
  unfold kp at h
  simp only [List.cons.injEq, Sum.inr.injEq, and_true] at h
  exact Prod.ext h.1 h.2
section
variable {P : Program} {w : World} {K : PySem.W.Frag} {mg : Str → Option Value} {base : Heap}
theorem ok_ckr {f f_orderedpair : Addr} {fd fd_orderedpair : FuncData} (B : Bi mg) (B_set : mg "set" = none) (D : Dn K mg "check_repeats" s_checkrepeats ["places", "ties"] f fd) (D_orderedpair : Dn K mg "ordered_pair" s_orderedpair ["one", "two"] f_orderedpair fd_orderedpair) (G_orderedpair : FnOk P w K mg base CX0 1 f_orderedpair fd_orderedpair ["one", "two"] spOrd) : FnOk P w K mg base CX0 2 f fd ["places", "ties"] spCkT := by
  refine D.F.ok sc_checkrepeats (fun vs H Q E h => ?_) (fun cdv A outer s H vs Q E hr h => ?_)
  · obtain ⟨p, t, Ps, E', rfl, _⟩ := h
    rfl
  · obtain ⟨p, t, Ps, E', rfl, ⟨hp, vs, ht, hpt⟩, F, q⟩ := h
    refine ⟨_, (pss_cons (ps_set (i := 2) sc_checkrepeats.nd rfl (.inl rfl) (pe_callTy0 (cr_set0KP (P := P) (w := w)) (by rfl) B_set (by decide +kernel)))
      (pss_cons (ps_for PassesOwn.never rfl (pi_listK (K := K) (pv 0)) (pg_name (i := 3) sc_checkrepeats.nd rfl (.inl rfl)) (pss_cons (ps_if (pt_cmpR (or_sinKP (P := P) (w := w)) (pv 3) (pv 2) (by rfl)) (pss_one ps_never) pss_nil)
      (pss_one (ps_expr (pe_saddKP (P := P) (w := w) (pv 2) (pa_cons (pv 3) pa_nil))))))
      (pss_cons (ps_set (i := 4) sc_checkrepeats.nd rfl (.inl rfl) (pe_callTy0 (cr_set0TP (P := P) (w := w)) (by rfl) B_set (by decide +kernel)))
      (pss_one (ps_for PassesOwn.never rfl (pi_listK (K := K) (pv 1)) (pg_tupK (K := K) (n := 2) (by rfl) (pgs_cons (pg_name (i := 5) sc_checkrepeats.nd rfl (.inl rfl)) (pgs_cons (pg_name (i := 6) sc_checkrepeats.nd rfl (.inl rfl)) pgs_nil))) (pss_cons (ps_set (i := 7) sc_checkrepeats.nd rfl (.inl rfl) (pe_call G_orderedpair (hr.mono (by omega)) (by rfl) D_orderedpair.g D_orderedpair.F.kp D_orderedpair.b .nil pass0 (pa_cons (pv 5) (pa_cons (pv 6) pa_nil))))
      (pss_cons (ps_if (pt_cmpR (or_noTP (P := P) (w := w) (hu8 hr)) (pv 7) (pv 4) (by rfl)) (pss_one ps_never) pss_nil)
      (pss_one (ps_expr (pe_addTP (P := P) (w := w) (hu8 hr) (pv 4) (pa_cons (pv 7) pa_nil))))))))))), ?_⟩
    walk_at "st"
    intro sn nsn
    walk_at "st"
    have k1 : Keeps H (L2.upd H sn (SetK P w sn (fun _ => false) 0)) := Keeps.new nsn
    have s1 : L2.upd H sn (SetK P w sn (fun _ => false) 0) sn = some (SetK P w sn (fun _ => false) 0) := upd_same
    refine ⟨⟨_, sq_of (k1 _ _ hp)⟩, ?_⟩
    have h20 := F.p20
    refine r_list (Ps.map V.str) (fun i σ H' => (∃ x b c d e, σ = [some (.ref p), some (.ref t), some (.ref sn), x, b, c, d, e]) ∧ Keeps H H' ∧ ∃ S n, H' sn = some (SetK P w sn S n) ∧ n ≤ i ∧ ∀ x, S (Sum.inr x) = true → x ∈ Ps.take i) ⟨⟨_, _, _, _, _, rfl⟩, k1, _, _, s1, Nat.le_refl _, fun x h => (by cases h)⟩ (fun i σ H' _ h => sq_of (h.2.1 _ _ hp)) ?_ ?_
    · rintro i v σ H' hx ⟨⟨x, b, c, d, e, rfl⟩, k, S, n, hs, hn, hS⟩ N kk
      obtain ⟨z, hz, rfl⟩ := get_map hx
      have hi := lt_of_get hz
      have no : S (Sum.inr z) = false := by
        cases e : S (Sum.inr z) with
        | false => rfl
        | true => exact absurd (hS z e) (take_new F.pnd hz)
      walk_at "st"
      refine ⟨Sum.inr z, rfl, S, ⟨n, hs⟩, ite2 (fun h => absurd h (by rw [no]; decide)) (fun _ => ?_)⟩
      walk_at "rt"
      refine ⟨⟨_, _, hs⟩, Sum.inr z, rfl, S, n, hs, by have : n + 1 ≤ 100 := by omega
                                                       exact Nat.lt_of_le_of_lt this (by decide), kk _ _ ⟨⟨_, _, _, _, _, rfl⟩, k.put nsn, _, _, upd_same, ?_, ?_⟩⟩
      · rw [if_neg (by rw [no]; decide)]
        omega
      · intro y hy
        rw [take_snoc hz]
        rcases (Bool.or_eq_true_iff.mp hy) with h | h
        · exact List.mem_append_left _ (hS y h)
        · have := of_decide_eq_true h
          rw [Sum.inr.inj this]
          exact List.mem_append_right _ List.mem_cons_self
    · rintro σ H' ⟨⟨x, b, c, d, e, rfl⟩, k, S, n, hs, hn, hS⟩
      walk_at "st"
      intro sp nsp
      walk_at "rt"
      have k2 : Keeps H (L2.upd H' sp (SetKT P w sp [])) := k.trans (Keeps.new nsp)
      have s2 : L2.upd H' sp (SetKT P w sp []) sp = some (SetKT P w sp []) := upd_same
      have nsp0 := k.free nsp
      generalize L2.upd H' sp (SetKT P w sp []) = H2 at k2 s2 ⊢
      refine ⟨⟨_, sq_of (k2 _ _ ht)⟩, ?_⟩
      have h60 := F.e60
      refine r_list vs (fun i σ H' => (∃ c d e, σ = [some (.ref p), some (.ref t), some (.ref sn), x, some (.ref sp), c, d, e]) ∧ Keeps H H' ∧ ∃ L, H' sp = some (SetKT P w sp L) ∧ AllT H' L ∧ L.length = i ∧ ∀ k, k ∈ L.map (·.2) → k ∈ (E'.take i).map fun e => kp (ordP e)) ⟨⟨_, _, _, rfl⟩, k2, [], s2, fun p h => (by cases h), rfl, fun k h => (by cases h)⟩ (fun i σ H' _ h => sq_of (h.2.1 _ _ ht)) ?_ ?_
      · rintro i v σ H3 hx ⟨⟨c, d, e, rfl⟩, k3, L, hs, hall, hl, hL⟩ N kk
        have hi : i < E'.length := by have := lt_of_get hx; have := hpt.1; omega
        have he := List.getElem?_eq_getElem hi
        generalize E'[i] = e0 at he
        obtain ⟨u, rfl, hu⟩ := hpt.2 i _ v he hx
        refine ⟨u, _, rfl, tup_at (k3 _ _ hu), rfl, _, _, rfl, _, _, rfl, rfl, ?_⟩
        walk_at "st"
        refine ⟨_, _, rfl, fun b nb => ?_⟩
        walk_at "st"
        have kb : L2.upd H3 b (.tup [.str (ordP e0).1, .str (ordP e0).2]) b = some (.tup ((kp (ordP e0)).map kV)) := upd_same
        have hall' : AllT (L2.upd H3 b (.tup [.str (ordP e0).1, .str (ordP e0).2])) L := fun p hp => (upd_ne (ne_of_none (hall p hp) nb)).trans (hall p hp)
        have hs' : L2.upd H3 b (.tup [.str (ordP e0).1, .str (ordP e0).2]) sp = some (SetKT P w sp L) := (upd_ne (ne_of_none hs nb)).trans hs
        have hnew : kp (ordP e0) ∉ L.map (·.2) := fun hm => by
          obtain ⟨e1, he1, e2⟩ := List.mem_map.mp (hL _ hm)
          have h1 := take_new F.end' (z := ordP e0) (i := i) (by rw [List.getElem?_map, he]; rfl)
          rw [← List.map_take] at h1
          exact h1 (List.mem_map.mpr ⟨e1, he1, kp_inj e2⟩)
        have k4 : Keeps H (L2.upd H3 b (.tup [.str (ordP e0).1, .str (ordP e0).2])) := k3.put (k3.free nb)
        refine ⟨_, kb, L, hs', hall', hnew, ⟨L, hs'⟩, _, L, hs', kb, hall', hnew, by omega, fun L' pm => kk _ _ ⟨⟨_, _, _, rfl⟩, k4.put nsp0, L', upd_same, ?_, ?_, ?_⟩⟩
        · intro p hp
          have : p = (b, kp (ordP e0)) ∨ p ∈ L := List.mem_cons.mp (pm.mem_iff.mp hp)
          have h2 : L2.upd H3 b (.tup [.str (ordP e0).1, .str (ordP e0).2]) p.1 = some (.tup (p.2.map kV)) := this.elim (fun z => by rw [z]; exact kb) (hall' p)
          rw [upd_ne (fun z => by rw [z, hs'] at h2; cases h2)]
          exact h2
        · rw [pm.length_eq, List.length_cons, hl]
        · intro y hy
          obtain ⟨p, hp, rfl⟩ := List.mem_map.mp hy
          rw [take_snoc he, List.map_append]
          rcases List.mem_cons.mp (pm.mem_iff.mp hp) with z | z
          · rw [z]
            exact List.mem_append_right _ List.mem_cons_self
          · exact List.mem_append_left _ (hL _ (List.mem_map.mpr ⟨p, z, rfl⟩))
      · rintro σ H3 ⟨⟨c, d, e, rfl⟩, k3, L, hs, hall, hl, hL⟩
        exact q H3 k3
end
end K01
namespace K01
open PySem PySem.Spec PyProof.Rows L2 TL HotExc Tw WX
local macro_rules | `(tactic| walk_at "rd") => `(tactic| simp only [start1, wipe, isR, isBool, isInt, isStr, isLst, isTup, tAsg, gName, gSub, tVar, tC, tOp, tUn, tTest, tIfS, tRet, tRetN, tDrop, tB, tAnd, tOr, tNot, tAndV, tOrV, tNotV, tIf, tCB, tCons, tNil, tNext, tCall, tBM, tTup, tLst, rU, rInW, rNinW, Int.reduceNeg, tG, tG2, sP, tFldC, sFldC, tProp, tMeth, tMake, rOwnC, rLenO, rIsC, rNoT, tAddT, tSAddK, rSAddK, rSInK, rSet0K, rSet0T, rMinS, rMaxS, rSortedQ, rSortedT, rEqD, rNeD, rIxD, dcL_eq, dcZ_eq, lcO_eq, forE_eq, forT_eq, lcS_eq, ItX.rIterN, iOwn, List.append_nil, tDisp, tPairs, tCallS, tCallSD, tCallT, StX.tStar, tCallK, tCallKS, rTupOf, tDrop, rI0, rI, rEq, rNe, scal, forR_eq, forR2_eq, forS_eq, forL_eq, lcT_eq, lcRT_eq, lcS_eq, rLenX, rLenS, rListOf, tRevL, rMulS, rRepL, rCatL, rSumN, rMaxN, tBM0, rPop, tAug, ipI,  tPart, tNoPart, CwR.tReplC, rAllK, rInSg, rNinSg, sgn_inj, rAddS, rInSt, tChain, tM1, tM0, rSplitN, rJoinN, exists_eq, rIntI, rIntB, rIntS, rStrI, rAbs, rOrd, rMin, rMax, rIxL, rIxX, rSetL, rAppend, rIxS, rSlS, rSlL, tSl, List.map_cons, List.map_nil, List.replicate_succ, List.replicate_zero, List.length_cons, List.length_nil, Nat.reduceSub, Nat.reduceAdd, Nat.zero_add, Nat.sub_self, List.getElem?_cons_zero, List.getElem?_cons_succ, List.set_cons_zero, List.set_cons_succ, List.append_nil, List.nil_append, List.cons_append, Option.some.injEq, not_true_eq_false, reduceCtorEq, exists_eq_left', exists_eq_left, exists_eq', exists_and_left, exists_and_right, V.int.injEq, V.str.injEq, V.bl.injEq, V.ref.injEq, List.cons.injEq, and_true, true_and, and_assoc, decide_eq_true_eq, Bool.not_eq_true', decide_eq_false_iff_not, ite_true, ite_false, if_true, if_false, Bool.not_true, Bool.not_false, Bool.false_eq_true, eq_self_iff_true, reduceIte, ne_eq, Int.reduceEq, not_false_eq_true])
local macro_rules | `(tactic| walk_at "rt") => `(tactic| try walk_at "rd")
local macro_rules | `(tactic| walk_at "st") => `(tactic| (walk_at "rt"; refine r_seq ?_; walk_at "rt"))
local macro_rules | `(tactic| walk_at "hp") => `(tactic| first | assumption | exact upd_same | (rw [upd_ne (by assumption)]; walk_at "hp"))
local macro_rules | `(tactic| walk_at "ex1") => `(tactic| ((with_reducible refine Exists.intro ?w (And.intro ?hx ?_)); (case hx => first | exact sq_of (by walk_at "hp") | exact .inl (sq_of (by walk_at "hp")) | exact rfl | (show _ = some (HO.lst _); walk_at "hp"))))
local macro_rules | `(tactic| walk_at "ex") => `(tactic| repeat (first | walk_at "ex1" | walk_at "rd"))
abbrev s_neartable : Stmt := topS 36
theorem sc_neartable : FnScope ["places", "ties", "near", "one", "two", "place"] ["places", "ties"] (defScope s_neartable) := ⟨rfl, rfl, rfl, by decide +kernel, rfl, by decide +kernel, by decide +kernel⟩
/-- the other ends of the ties at a place, in the ties' order -/
def nears (T : List (Str × Str)) (x : Str) : List Str := T.flatMap fun e => (if e.1 = x then [e.2] else []) ++ (if e.2 = x then [e.1] else [])
theorem nears_snoc (T : List (Str × Str)) (e : Str × Str) (x : Str) : nears (T ++ [e]) x = (nears T x ++ if e.1 = x then [e.2] else []) ++ if e.2 = x then [e.1] else [] := by
  unfold nears
  rw [List.flatMap_append, List.flatMap_singleton, List.append_assoc]
theorem nears_len (T : List (Str × Str)) (x : Str) : (nears T x).length ≤ 2 * T.length := by
  induction T with
  | nil => exact Nat.zero_le _
  | cons e T ih =>
    unfold nears at ih ⊢
    rw [List.flatMap_cons, List.length_append, List.length_append, List.length_cons]
    have h1 : (if e.1 = x then [e.2] else []).length ≤ 1 := by split <;> simp
    have h2 : (if e.2 = x then [e.1] else []).length ≤ 1 := by split <;> simp
    omega
/-- a table under work: new lists, one for each key, as f tells -/
structure NearE (H0 H : Hp) (kvs : List (Key × V)) (Ps : List Str) (f : Str → List Str) : Prop where
  at' : ∀ x ∈ Ps, ∃ l, valV kvs (Sum.inr x) = some (.ref l) ∧ H0 l = none ∧ H l = some (.lst ((f x).map V.str))
  inj : ∀ x y l, valV kvs (Sum.inr x) = some (.ref l) → valV kvs (Sum.inr y) = some (.ref l) → x = y
  key : ∀ k v, valV kvs k = some v → ∃ x ∈ Ps, k = Sum.inr x
theorem NearE.nil {H0 H : Hp} {f : Str → List Str} : NearE H0 H [] [] f := ⟨fun x h => (by cases h), fun x y l h => (by cases h), fun k v h => (by cases h)⟩
theorem NearE.keep {H0 H H' : Hp} {kvs : List (Key × V)} {Ps : List Str} {f : Str → List Str} (h : NearE H0 H kvs Ps f) (k : ∀ l xs, H0 l = none → H l = some (.lst xs) → H' l = some (.lst xs)) : NearE H0 H' kvs Ps f := ⟨fun x hx => by
  obtain ⟨l, h1, h2, h3⟩ := h.at' x hx
  exact ⟨l, h1, h2, k _ _ h2 h3⟩, h.inj, h.key⟩
theorem NearE.ext {H0 H : Hp} {kvs : List (Key × V)} {Ps : List Str} {f g : Str → List Str} (h : NearE H0 H kvs Ps f) (e : ∀ x ∈ Ps, f x = g x) : NearE H0 H kvs Ps g := ⟨fun x hx => by
  obtain ⟨l, h1, h2, h3⟩ := h.at' x hx
  exact ⟨l, h1, h2, by rw [← e x hx]; exact h3⟩, h.inj, h.key⟩
theorem NearE.set {H0 H : Hp} {kvs : List (Key × V)} {Ps Qs : List Str} {f : Str → List Str} (h : NearE H0 H kvs Ps f) (e : ∀ x, x ∈ Ps ↔ x ∈ Qs) : NearE H0 H kvs Qs f := ⟨fun x hx => h.at' x ((e x).mpr hx), h.inj, fun k v hv => by
  obtain ⟨x, hx, ek⟩ := h.key k v hv
  exact ⟨x, (e x).mp hx, ek⟩⟩
/-- a key more, or a new list at a key -/
theorem NearE.put {H0 H H' : Hp} {kvs : List (Key × V)} {Ps : List Str} {f : Str → List Str} (h : NearE H0 H kvs Ps f) {l : Addr} {x : Str} (nl : H l = none) (n0 : H0 l = none) (k : ∀ p xs, H p = some (.lst xs) → H' p = some (.lst xs)) {g : Str → List Str} (hg : ∀ y, y ≠ x → f y = g y) (hl : H' l = some (.lst ((g x).map V.str))) : NearE H0 H' (putK kvs (Sum.inr x) (.ref l)) (Ps ++ [x]) g := by
  have old : ∀ y l', valV kvs (Sum.inr y) = some (.ref l') → l' ≠ l := fun y l' hv z => by
    obtain ⟨y', hy', e⟩ := h.key _ _ hv
    cases e
    obtain ⟨l2, h1, _, h3⟩ := h.at' y hy'
    rw [h1] at hv
    cases hv
    rw [z, nl] at h3
    cases h3
  have val : ∀ y, valV (putK kvs (Sum.inr x) (.ref l)) (Sum.inr y) = if y = x then some (.ref l) else valV kvs (Sum.inr y) := fun y => by
    rw [valV_put]
    by_cases e : y = x
    · rw [if_pos e, if_pos (by rw [e])]
    · rw [if_neg e, if_neg (fun z => e (Sum.inr.inj z))]
  refine ⟨fun y hy => ?_, fun y z l' h1 h2 => ?_, fun kk v hv => ?_⟩
  · rw [val]
    by_cases e : y = x
    · rw [if_pos e, e]
      exact ⟨l, rfl, n0, hl⟩
    · rw [if_neg e]
      rcases List.mem_append.mp hy with hy | hy
      · obtain ⟨l', h1, h2, h3⟩ := h.at' y hy
        exact ⟨l', h1, h2, by rw [← hg y e]; exact k _ _ h3⟩
      · exact absurd (List.mem_singleton.mp hy) e
  · rw [val] at h1 h2
    by_cases e1 : y = x
    · rw [if_pos e1] at h1
      cases h1
      by_cases e2 : z = x
      · rw [e1, e2]
      · rw [if_neg e2] at h2
        exact absurd rfl (old _ _ h2)
    · rw [if_neg e1] at h1
      by_cases e2 : z = x
      · rw [if_pos e2] at h2
        cases h2
        exact absurd rfl (old _ _ h1)
      · rw [if_neg e2] at h2
        exact h.inj _ _ _ h1 h2
  · rw [valV_put] at hv
    by_cases e : kk = Sum.inr x
    · exact ⟨x, List.mem_append_right _ List.mem_cons_self, e⟩
    · rw [if_neg e] at hv
      obtain ⟨y, hy, e⟩ := h.key _ _ hv
      exact ⟨y, List.mem_append_left _ hy, e⟩
theorem NearE.app {H0 H : Hp} {kvs : List (Key × V)} {Ps : List Str} {f : Str → List Str} (h : NearE H0 H kvs Ps f) {y z : Str} {l : Addr} (hv : valV kvs (Sum.inr y) = some (.ref l)) (hl : H l = some (.lst ((f y).map V.str))) :
    NearE H0 (L2.upd H l (.lst ((f y).map V.str ++ [.str z]))) kvs Ps (fun x => f x ++ if y = x then [z] else []) := by
  refine ⟨fun x hx => ?_, h.inj, h.key⟩
  obtain ⟨l', h1, h2, h3⟩ := h.at' x hx
  by_cases e : y = x
  · subst e
    rw [h1] at hv
    cases hv
    exact ⟨_, h1, h2, by rw [upd_same, if_pos rfl, List.map_append]; rfl⟩
  · refine ⟨l', h1, h2, ?_⟩
    rw [if_neg e, List.append_nil, upd_ne (fun z => by rw [z] at h1; exact e (h.inj _ _ _ hv h1))]
    exact h3
/-- the table of near places -/
def NearAt (H : Hp) (d : Addr) (Ps : List Str) (T : List (Str × Str)) : Prop := ∃ kvs, H d = some (.dK kvs) ∧ (∀ x ∈ Ps, ∃ l, valV kvs (Sum.inr x) = some (.ref l) ∧ H l = some (.lst ((sortS (nears T x)).map V.str))) ∧ ∀ k v, valV kvs k = some v → ∃ x ∈ Ps, k = Sum.inr x
theorem NearAt.keep {H H' : Hp} {d : Addr} {Ps : List Str} {T : List (Str × Str)} (h : NearAt H d Ps T) (k : Keeps H H') : NearAt H' d Ps T := by
  obtain ⟨kvs, h1, h2, h3⟩ := h
  exact ⟨kvs, k _ _ h1, fun x hx => by
    obtain ⟨l, g1, g2⟩ := h2 x hx
    exact ⟨l, g1, k _ _ g2⟩, h3⟩
theorem NearAt.upd {H : Hp} {d a : Addr} {Ps : List Str} {T : List (Str × Str)} {o u : HO} (h : NearAt H d Ps T) (ha : H a = some o) (n1 : ∀ xs, o ≠ .lst xs) (n2 : ∀ xs, o ≠ .dK xs) : NearAt (L2.upd H a u) d Ps T := by
  obtain ⟨kvs, h1, h2, h3⟩ := h
  exact ⟨kvs, (upd_ne (fun z => by rw [z, ha] at h1; exact n2 _ (Option.some.inj h1))).trans h1, fun x hx => by
    obtain ⟨l, g1, g2⟩ := h2 x hx
    exact ⟨l, g1, (upd_ne (fun z => by rw [z, ha] at g2; exact n1 _ (Option.some.inj g2))).trans g2⟩, h3⟩
theorem NearAt.but {H H' : Hp} {d a : Addr} {Ps : List Str} {T : List (Str × Str)} (h : NearAt H d Ps T) (b : But a H H') (n1 : ∀ p xs, H p = some (.lst ((xs : List Str).map V.str)) → p ≠ a) (n2 : ∀ p kvs, H p = some (.dK kvs) → p ≠ a) : NearAt H' d Ps T := by
  obtain ⟨kvs, h1, h2, h3⟩ := h
  exact ⟨kvs, b _ _ (n2 _ _ h1) h1, fun x hx => by
    obtain ⟨l, g1, g2⟩ := h2 x hx
    exact ⟨l, g1, b _ _ (n1 _ _ g2) g2⟩, h3⟩
def spNear : Sp := fun vs H Q _ => ∃ (p t : Addr) (Ps : List Str) (T : List (Str × Str)), vs = [.ref p, .ref t] ∧ Args H p t Ps T ∧ Ps.length ≤ 20 ∧ T.length ≤ 60 ∧ (∀ e ∈ T, e.1 ∈ Ps ∧ e.2 ∈ Ps) ∧ ∀ r H', Keeps H H' → H r = none → NearAt H' r Ps T → Q (.ref r) H'
section
variable {P : Program} {w : World} {K : PySem.W.Frag} {mg : Str → Option Value} {base : Heap}
theorem ok_near {f : Addr} {fd : FuncData} (B : Bi mg) (B_sorted : mg "sorted" = none) (D : Dn K mg "near_table" s_neartable ["places", "ties"] f fd) : FnOk P w K mg base CX0 2 f fd ["places", "ties"] spNear := by
  refine D.F.ok sc_neartable (fun vs H Q E h => ?_) (fun cdv A outer s H vs Q E hr h => ?_)
  · obtain ⟨p, t, Ps, T, rfl, _⟩ := h
    rfl
  · obtain ⟨p, t, Ps, T, rfl, ⟨hp, vs, ht, hpt⟩, h20, h60, hin, q⟩ := h
    refine ⟨_, (pss_cons (ps_set (i := 2) sc_neartable.nd rfl (.inr rfl) (pe_dc (own := [("place", 5)]) (g := (gName 5)) (tt := tYes) (by rfl) sc_neartable.nd (pi_listK (K := K) (pv 0)) (blkOk_by (own := [("place", 5)]) (N := ["places", "ties", "near", "one", "two", "place"]) (sc := defScope s_neartable) (by decide +kernel)) (fun _ _ _ _ _ => (pg_name (i := 5) sc_neartable.nd rfl (Or.inl rfl))) (fun _ _ _ _ _ => pts_nil) (fun _ _ _ _ _ => (pv 5)) (fun _ _ _ _ _ => (pe_lst pa_nil))))
      (pss_cons (ps_for PassesOwn.never rfl (pi_listK (K := K) (pv 1)) (pg_tupK (K := K) (n := 2) (by rfl) (pgs_cons (pg_name (i := 3) sc_neartable.nd rfl (.inl rfl)) (pgs_cons (pg_name (i := 4) sc_neartable.nd rfl (.inl rfl)) pgs_nil))) (pss_cons (ps_expr (pe_bm PySem.F.plainAttrs_list PySem.F.slot_list_append PySem.F.type_list_append mt_append (pe_gS (hu_of hr) (pv 2) (pv 3) (fun _ _ => rfl)) (pa_cons (pv 4) pa_nil)))
      (pss_one (ps_expr (pe_bm PySem.F.plainAttrs_list PySem.F.slot_list_append PySem.F.type_list_append mt_append (pe_gS (hu_of hr) (pv 2) (pv 4) (fun _ _ => rfl)) (pa_cons (pv 3) pa_nil))))))
      (pss_one (ps_ret (pe_dc (own := [("place", 5)]) (g := (gName 5)) (tt := tYes) (by rfl) sc_neartable.nd (pi_listK (K := K) (pv 0)) (blkOk_by (own := [("place", 5)]) (N := ["places", "ties", "near", "one", "two", "place"]) (sc := defScope s_neartable) (by decide +kernel)) (fun _ _ _ _ _ => (pg_name (i := 5) sc_neartable.nd rfl (Or.inl rfl))) (fun _ _ _ _ _ => pts_nil) (fun _ _ _ _ _ => (pv 5)) (fun _ _ _ _ _ => (pe_callB (call_sortedTK (K := K) (hu64 hr)) (by rfl) B_sorted (by decide +kernel) (pa_cons (pe_gS (hu_of hr) (pv 2) (pv 5) (fun _ _ => rfl)) pa_nil)))))))), ?_⟩
    walk_at "st"
    refine ⟨⟨_, sq_of hp⟩, fun nt nnt => ?_⟩
    have nn : nears [] = fun _ => [] := rfl
    refine r_dcL (Ps.map V.str) (fun i H' => Keeps H H' ∧ ∃ kvs, H' nt = some (.dK kvs) ∧ kvs.length ≤ i ∧ NearE H H' kvs (Ps.take i) (nears [])) (fun _ => rfl) ⟨Keeps.new nnt, [], upd_same, Nat.le_refl _, NearE.nil⟩ (fun i H' _ h => sq_of (h.1 _ _ hp)) ?_ ?_
    · rintro i v H' hx ⟨k, kvs, hn, hl, hw⟩ N kN
      obtain ⟨z, hz, rfl⟩ := get_map hx
      have hi := lt_of_get hz
      walk_at "rt"
      refine ⟨Nat.zero_le _, fun l nl => ?_⟩
      have h5 : L2.upd H' l (.lst []) nt = some (.dK kvs) := (upd_ne (ne_of_none hn nl)).trans hn
      have hl2 := length_putK kvs (Sum.inr z) (.ref l)
      refine kN (Sum.inr z) (.ref l) _ kvs h5 (size_ok (by omega)) ⟨(k.put (k.free nl)).put nnt, _, upd_same, by omega, ?_⟩
      rw [take_snoc hz]
      refine hw.put nl (k.free nl) (fun p xs h => ?_) (fun _ _ => rfl) ((upd_ne (fun z => by rw [← z] at hn; rw [hn] at nl; cases nl)).trans upd_same)
      rw [upd_ne (fun z => by rw [z, hn] at h; cases h), upd_ne (ne_of_none h nl)]
      exact h
    rintro H1 ⟨k1, kvs, hn, hl, hw⟩
    rw [List.length_map, List.take_length] at hw
    walk_at "st"
    refine ⟨⟨_, sq_of (k1 _ _ ht)⟩, ?_⟩
    refine r_list vs (fun i σ H' => (∃ b c d, σ = [some (.ref p), some (.ref t), some (.ref nt), b, c, d]) ∧ Keeps H H' ∧ H' nt = some (.dK kvs) ∧ NearE H H' kvs Ps (nears (T.take i))) ⟨⟨_, _, _, rfl⟩, k1, hn, hw⟩ (fun i σ H' _ h => sq_of (h.2.1 _ _ ht)) ?_ ?_
    · rintro i v σ H' hx ⟨⟨b, c, d, rfl⟩, k, hn', hw'⟩ N kk
      have hi : i < T.length := by have := lt_of_get hx; have := hpt.1; omega
      have he := List.getElem?_eq_getElem hi
      have hm := hin _ (List.getElem_mem hi)
      generalize T[i] = e0 at he hm
      obtain ⟨u, rfl, hu⟩ := hpt.2 i _ v he hx
      have len : ∀ x, (nears (T.take i) x).length ≤ 120 := fun x => by
        have := nears_len (T.take i) x
        rw [List.length_take] at this
        omega
      refine ⟨u, _, rfl, tup_at (k _ _ hu), rfl, _, _, rfl, _, _, rfl, rfl, ?_⟩
      obtain ⟨l1, hv1, a1, b1⟩ := hw'.at' _ hm.1
      walk_at "st"
      refine ⟨kvs, hn', _, hv1, .inl ⟨rfl, _, sq_of b1⟩, l1, rfl, _, b1, size_ok (by rw [List.length_map]; have := len e0.1; omega), ?_⟩
      have hn2 : L2.upd H' l1 (.lst ((nears (T.take i) e0.1).map V.str ++ [.str e0.2])) nt = some (.dK kvs) := (upd_ne (fun z => by rw [z, b1] at hn'; cases hn')).trans hn'
      have kp2 := k.put (p := l1) (x := .lst ((nears (T.take i) e0.1).map V.str ++ [.str e0.2])) a1
      have hw2 := hw'.app (z := e0.2) hv1 b1
      generalize L2.upd H' l1 (.lst ((nears (T.take i) e0.1).map V.str ++ [.str e0.2])) = H2 at hn2 kp2 hw2 ⊢
      obtain ⟨l2, hv2, a2, b2⟩ := hw2.at' _ hm.2
      walk_at "rt"
      refine ⟨kvs, hn2, _, hv2, .inl ⟨rfl, _, sq_of b2⟩, l2, rfl, _, b2, size_ok (by
        rw [List.length_map, List.length_append]
        have := len e0.2
        have : (if e0.1 = e0.2 then [e0.2] else []).length ≤ 1 := by split <;> simp
        omega), ?_⟩
      exact kk _ _ ⟨⟨_, _, _, rfl⟩, kp2.put a2, (upd_ne (fun z => by rw [z, b2] at hn2; cases hn2)).trans hn2, (hw2.app hv2 b2).ext fun x _ => by rw [take_snoc he, nears_snoc]⟩
    · rintro σ H2 ⟨⟨b, c, d, rfl⟩, k2, hn2, hw2⟩
      rw [List.take_of_length_le (by rw [hpt.1]; exact Nat.le_refl _)] at hw2
      walk_at "rt"
      refine ⟨⟨_, sq_of (k2 _ _ hp)⟩, fun r nr => ?_⟩
      have kr : Keeps H2 (L2.upd H2 r (.dK [])) := Keeps.new nr
      have nr0 := k2.free nr
      refine r_dcL (Ps.map V.str) (fun i H' => Keeps H2 H' ∧ ∃ kv2, H' r = some (.dK kv2) ∧ kv2.length ≤ i ∧ NearE H H' kv2 (Ps.take i) (fun x => sortS (nears T x))) (fun _ => rfl) ⟨kr, [], upd_same, Nat.le_refl _, NearE.nil⟩ (fun i H' _ h => sq_of (h.1 _ _ (k2 _ _ hp))) ?_ ?_
      · rintro i v H' hx ⟨k, kv2, hr2, hl2, hw3⟩ N kN
        obtain ⟨z, hz, rfl⟩ := get_map hx
        have hi := lt_of_get hz
        obtain ⟨l, hv0, l1, l2⟩ := hw2.at' z (List.mem_of_getElem? hz)
        have l2 := k _ _ l2
        have hn3 := k _ _ hn2
        walk_at "rt"
        refine ⟨kvs, hn3, _, hv0, l, rfl, _, sq_of l2, fun p2 np2 => ?_⟩
        have h5 : L2.upd H' p2 (.lst ((sortS (nears T z)).map V.str)) r = some (.dK kv2) := (upd_ne (ne_of_none hr2 np2)).trans hr2
        have hlp := length_putK kv2 (Sum.inr z) (.ref p2)
        refine kN (Sum.inr z) (.ref p2) _ kv2 h5 (size_ok (by omega)) ⟨(k.put (k.free np2)).put nr, _, upd_same, by omega, ?_⟩
        rw [take_snoc hz]
        refine hw3.put np2 (k2.free (k.free np2)) (fun p xs h => ?_) (fun _ _ => rfl) ((upd_ne (fun z => by rw [← z] at hr2; rw [hr2] at np2; cases np2)).trans upd_same)
        rw [upd_ne (fun z => by rw [z, hr2] at h; cases h), upd_ne (ne_of_none h np2)]
        exact h
      · rintro H3 ⟨k3, kv2, hr2, _, hw3⟩
        rw [List.length_map, List.take_length] at hw3
        exact q r H3 (k2.trans k3) nr0 ⟨kv2, hr2, fun x hx => by
          obtain ⟨l, h1, _, h3⟩ := hw3.at' x hx
          exact ⟨l, h1, h3⟩, hw3.key⟩
end
end K01
namespace K01
open PySem PySem.Spec PyProof.Rows L2 TL HotExc Tw WX
local macro_rules | `(tactic| walk_at "rd") => `(tactic| simp only [start1, wipe, isR, isBool, isInt, isStr, isLst, isTup, tAsg, gName, gSub, tVar, tC, tOp, tUn, tTest, tIfS, tRet, tRetN, tDrop, tB, tAnd, tOr, tNot, tAndV, tOrV, tNotV, tIf, tCB, tCons, tNil, tNext, tCall, tBM, tTup, tLst, rU, rInW, rNinW, Int.reduceNeg, tG, tG2, sP, tFldC, sFldC, tProp, tMeth, tMake, rOwnC, rLenO, rIsC, rNoT, tAddT, tSAddK, rSAddK, rSInK, rSet0K, rSet0T, rMinS, rMaxS, rSortedQ, rSortedT, rEqD, rNeD, rIxD, dcL_eq, dcZ_eq, lcO_eq, forE_eq, forT_eq, lcS_eq, ItX.rIterN, iOwn, List.append_nil, tDisp, tPairs, tCallS, tCallSD, tCallT, StX.tStar, tCallK, tCallKS, rTupOf, tDrop, rI0, rI, rEq, rNe, scal, forR_eq, forR2_eq, forS_eq, forL_eq, lcT_eq, lcRT_eq, lcS_eq, rLenX, rLenS, rListOf, tRevL, rMulS, rRepL, rCatL, rSumN, rMaxN, tBM0, rPop, tAug, ipI,  tPart, tNoPart, CwR.tReplC, rAllK, rInSg, rNinSg, sgn_inj, rAddS, rInSt, tChain, tM1, tM0, rSplitN, rJoinN, exists_eq, rIntI, rIntB, rIntS, rStrI, rAbs, rOrd, rMin, rMax, rIxL, rIxX, rSetL, rAppend, rIxS, rSlS, rSlL, tSl, List.map_cons, List.map_nil, List.replicate_succ, List.replicate_zero, List.length_cons, List.length_nil, Nat.reduceSub, Nat.reduceAdd, Nat.zero_add, Nat.sub_self, List.getElem?_cons_zero, List.getElem?_cons_succ, List.set_cons_zero, List.set_cons_succ, List.append_nil, List.nil_append, List.cons_append, Option.some.injEq, not_true_eq_false, reduceCtorEq, exists_eq_left', exists_eq_left, exists_eq', exists_and_left, exists_and_right, V.int.injEq, V.str.injEq, V.bl.injEq, V.ref.injEq, List.cons.injEq, and_true, true_and, and_assoc, decide_eq_true_eq, Bool.not_eq_true', decide_eq_false_iff_not, ite_true, ite_false, if_true, if_false, Bool.not_true, Bool.not_false, Bool.false_eq_true, eq_self_iff_true, reduceIte, ne_eq, Int.reduceEq, not_false_eq_true])
local macro_rules | `(tactic| walk_at "rt") => `(tactic| try walk_at "rd")
local macro_rules | `(tactic| walk_at "st") => `(tactic| (walk_at "rt"; refine r_seq ?_; walk_at "rt"))
local macro_rules | `(tactic| walk_at "hp") => `(tactic| first | assumption | exact upd_same | (rw [upd_ne (by assumption)]; walk_at "hp"))
local macro_rules | `(tactic| walk_at "ex1") => `(tactic| ((with_reducible refine Exists.intro ?w (And.intro ?hx ?_)); (case hx => first | exact sq_of (by walk_at "hp") | exact .inl (sq_of (by walk_at "hp")) | exact rfl | (show _ = some (HO.lst _); walk_at "hp"))))
local macro_rules | `(tactic| walk_at "ex") => `(tactic| repeat (first | walk_at "ex1" | walk_at "rd"))
abbrev s_iWeb : Stmt := clsS 34 0
theorem sc_iWeb : FnScope ["self", "places", "ties", "one", "two"] ["self", "places", "ties"] (defScope s_iWeb) := ⟨rfl, rfl, rfl, by decide +kernel, rfl, by decide +kernel, by decide +kernel⟩
abbrev s_mWeb_places : Stmt := clsS 34 1
theorem sc_mWeb_places : FnScope ["self"] ["self"] (defScope s_mWeb_places) := ⟨rfl, rfl, rfl, by decide +kernel, rfl, by decide +kernel, by decide +kernel⟩
abbrev s_mWeb_ties : Stmt := clsS 34 2
theorem sc_mWeb_ties : FnScope ["self"] ["self"] (defScope s_mWeb_ties) := ⟨rfl, rfl, rfl, by decide +kernel, rfl, by decide +kernel, by decide +kernel⟩
abbrev s_mWeb_len : Stmt := clsS 34 14
theorem sc_mWeb_len : FnScope ["self"] ["self"] (defScope s_mWeb_len) := ⟨rfl, rfl, rfl, by decide +kernel, rfl, by decide +kernel, by decide +kernel⟩
abbrev s_mWeb_iter : Stmt := clsS 34 15
theorem sc_mWeb_iter : FnScope ["self"] ["self"] (defScope s_mWeb_iter) := ⟨rfl, rfl, rfl, by decide +kernel, rfl, by decide +kernel, by decide +kernel⟩
abbrev s_mWeb_eq : Stmt := clsS 34 17
theorem sc_mWeb_eq : FnScope ["self", "other"] ["self", "other"] (defScope s_mWeb_eq) := ⟨rfl, rfl, rfl, by decide +kernel, rfl, by decide +kernel, by decide +kernel⟩
theorem _root_.WX.PT.snoc {H : Hp} {ps : List (Str × Str)} {vs : List V} {t : Addr} {p : Str × Str} (h : PT H ps vs) (ht : H t = some (.tup [.str p.1, .str p.2])) : PT H (ps ++ [p]) (vs ++ [.ref t]) := by
  refine ⟨by rw [List.length_append, List.length_append, h.1]; rfl, fun i q v e1 e2 => ?_⟩
  by_cases hi : i < ps.length
  · rw [List.getElem?_append_left hi] at e1
    rw [List.getElem?_append_left (by rw [h.1]; exact hi)] at e2
    exact h.2 i q v e1 e2
  · have hl := lt_of_get e1
    rw [List.length_append, List.length_singleton] at hl
    obtain rfl : i = ps.length := by omega
    rw [List.getElem?_append_right (Nat.le_refl _), Nat.sub_self] at e1
    rw [List.getElem?_append_right (by rw [h.1]; exact Nat.le_refl _), h.1, Nat.sub_self] at e2
    cases e1
    cases e2
    exact ⟨t, rfl, ht⟩
theorem _root_.WX.PT.keeps {H H' : Hp} {ps : List (Str × Str)} {vs : List V} (h : PT H ps vs) (k : Keeps H H') : PT H' ps vs := h.keep fun t xs e => k _ _ e
theorem _root_.WX.PT.upd {H : Hp} {ps : List (Str × Str)} {vs : List V} {a : Addr} {o u : HO} (h : PT H ps vs) (ha : H a = some o) (no : ∀ xs, o ≠ .tup xs) : PT (L2.upd H a u) ps vs := h.keep fun t xs e => (upd_ne (fun z => by rw [z, ha] at e; exact no _ (Option.some.inj e))).trans e
def webF (pl tl nd : Addr) : List (Str × V) := putF (Str.ofString "_near") (.ref nd) (putF (Str.ofString "_ties") (.ref tl) (putF (Str.ofString "_places") (.ref pl) []))
theorem webF_places (pl tl nd : Addr) : (webF pl tl nd).lookup (Str.ofString "_places") = some (.ref pl) := by
  unfold webF
  rw [lookup_putF, if_neg (by decide +kernel), lookup_putF, if_neg (by decide +kernel), lookup_putF, if_pos rfl]
theorem webF_ties (pl tl nd : Addr) : (webF pl tl nd).lookup (Str.ofString "_ties") = some (.ref tl) := by
  unfold webF
  rw [lookup_putF, if_neg (by decide +kernel), lookup_putF, if_pos rfl]
/-- a web of these places and ties -/
structure WebAt (C : Addr) (H : Hp) (x pl tl nd dx : Addr) (Ps : List Str) (T : List (Str × Str)) (vs : List V) : Prop where
  ob : H x = some (.ins C dx (webF pl tl nd))
  pl_ : H pl = some (.lst (Ps.map V.str))
  tl_ : H tl = some (.lst vs)
  pt : PT H T vs
  nr : NearAt H nd Ps T
def IsWeb (C : Addr) (H : Hp) (x : Addr) (Ps : List Str) (T : List (Str × Str)) : Prop := ∃ pl tl nd dx vs, WebAt C H x pl tl nd dx Ps T vs
theorem WebAt.keep {C : Addr} {H H' : Hp} {x pl tl nd dx : Addr} {Ps : List Str} {T : List (Str × Str)} {vs : List V} (h : WebAt C H x pl tl nd dx Ps T vs) (k : Keeps H H') : WebAt C H' x pl tl nd dx Ps T vs := ⟨k _ _ h.ob, k _ _ h.pl_, k _ _ h.tl_, h.pt.keep fun t xs e => k _ _ e, h.nr.keep k⟩
theorem IsWeb.keep {C : Addr} {H H' : Hp} {x : Addr} {Ps : List Str} {T : List (Str × Str)} (h : IsWeb C H x Ps T) (k : Keeps H H') : IsWeb C H' x Ps T := let ⟨pl, tl, nd, dx, vs, h⟩ := h; ⟨pl, tl, nd, dx, vs, h.keep k⟩
/-- the list behind a web's walk -/
def WebR (C : Addr) (a l : Addr) (H : Hp) : Prop := ∃ tl nd dx, H a = some (.ins C dx (webF l tl nd))
def spInW (C : Addr) : Sp := fun vs H Q _ => ∃ (x p t dx : Addr) (Ps : List Str) (E : List (Str × Str)), vs = [.ref x, .ref p, .ref t] ∧ H x = some (.ins C dx []) ∧ Args H p t Ps E ∧ Fit Ps E ∧ ∀ H', But x H H' → IsWeb C H' x (sortS Ps) (sortP (E.map ordP)) → Q .non H'
def spWeb1 (C : Addr) (g : List Str → List (Str × Str) → Hp → VK → Prop) : Sp := fun vs H Q _ => ∃ x Ps T, vs = [.ref x] ∧ IsWeb C H x Ps T ∧ g Ps T H Q
def spWpl (C : Addr) : Sp := spWeb1 C fun Ps T H Q => ∀ l, H l = none → Q (.ref l) (L2.upd H l (.lst (Ps.map V.str)))
def spWti (C : Addr) : Sp := spWeb1 C fun Ps T H Q => ∀ l vs, H l = none → PT H T vs → Q (.ref l) (L2.upd H l (.lst vs))
def spWln (C : Addr) : Sp := spWeb1 C fun Ps T H Q => Q (.int Ps.length) H
/-- what the texts of a web are -/
structure WebOk (Ps : List Str) (T : List (Str × Str)) : Prop where
  ne : Ps ≠ []
  p20 : Ps.length ≤ 20
  t60 : T.length ≤ 60
  nd : Ps.Nodup
  nam : ∀ x ∈ Ps, Nam x
  inP : ∀ e ∈ T, e.1 ∈ Ps ∧ e.2 ∈ Ps
theorem Fit.ok {Ps : List Str} {E : List (Str × Str)} (F : Fit Ps E) : WebOk (sortS Ps) (sortP (E.map ordP)) :=
  ⟨fun z => F.ne (by have := (sortS_pm Ps).length_eq; rw [z] at this; exact List.length_eq_zero_iff.mp this.symm), by rw [(sortS_pm Ps).length_eq]; exact F.p20, by rw [(sortP_pm _).length_eq, List.length_map]; exact F.e60, (sortS_pm Ps).nodup_iff.mpr F.pnd, fun x hx => F.nam x ((sortS_pm Ps).mem_iff.mp hx), fun e he => by
    obtain ⟨e0, h0, rfl⟩ := List.mem_map.mp ((sortP_pm _).mem_iff.mp he)
    have := F.inP e0 h0
    have h2 : (ordP e0).1 ∈ Ps ∧ (ordP e0).2 ∈ Ps := by
      unfold ordP
      split
      · exact this
      · exact ⟨this.2, this.1⟩
    exact ⟨(sortS_pm Ps).mem_iff.mpr h2.1, (sortS_pm Ps).mem_iff.mpr h2.2⟩⟩
theorem Nam.ok {x : Str} (h : Nam x) : PyData.strOk x = true := by
  unfold PyData.strOk
  rw [← Array.all_toList, List.all_eq_true]
  intro c hc
  have := nm_mem h hc
  refine decide_eq_true ?_
  rcases this with h | h <;> omega
def spWeq (C : Addr) : Sp := fun vs H Q _ => ∃ x y Ps T Ps' T', vs = [.ref x, .ref y] ∧ IsWeb C H x Ps T ∧ IsWeb C H y Ps' T' ∧ WebOk Ps T ∧ WebOk Ps' T' ∧ Q (.bl (decide (Ps = Ps' ∧ T = T'))) H
theorem ordP_in {e : Str × Str} {Ps : List Str} (h : e.1 ∈ Ps ∧ e.2 ∈ Ps) : (ordP e).1 ∈ Ps ∧ (ordP e).2 ∈ Ps := by
  unfold ordP
  split
  · exact h
  · exact ⟨h.2, h.1⟩
section
variable {P : Program} {w : World} {K : PySem.W.Frag} {mg : Str → Option Value} {base : Heap}
theorem ok_iWeb {c_Web f f_checkplaces f_checkties f_checkrepeats f_orderedpair f_neartable : Addr} {fd fd_checkplaces fd_checkties fd_checkrepeats fd_orderedpair fd_neartable : FuncData} (B : Bi mg) (B_sorted : mg "sorted" = none)
    (F : Fun K "__init__" "Web.__init__" s_iWeb f fd) (CL_Web : Cls K c_Web) (NA_Web_places : NoAttr K c_Web "_places") (NA_Web_ties : NoAttr K c_Web "_ties") (NA_Web_near : NoAttr K c_Web "_near")
    (D_checkplaces : Dn K mg "check_places" s_checkplaces ["places"] f_checkplaces fd_checkplaces) (D_checkties : Dn K mg "check_ties" s_checkties ["places", "ties"] f_checkties fd_checkties) (D_checkrepeats : Dn K mg "check_repeats" s_checkrepeats ["places", "ties"] f_checkrepeats fd_checkrepeats)
    (D_orderedpair : Dn K mg "ordered_pair" s_orderedpair ["one", "two"] f_orderedpair fd_orderedpair) (D_neartable : Dn K mg "near_table" s_neartable ["places", "ties"] f_neartable fd_neartable)
    (G_checkplaces : FnOk P w K mg base CX0 2 f_checkplaces fd_checkplaces ["places"] spCkP) (G_checkties : FnOk P w K mg base CX0 2 f_checkties fd_checkties ["places", "ties"] spCkT) (G_checkrepeats : FnOk P w K mg base CX0 2 f_checkrepeats fd_checkrepeats ["places", "ties"] spCkT)
    (G_orderedpair : FnOk P w K mg base CX0 1 f_orderedpair fd_orderedpair ["one", "two"] spOrd) (G_neartable : FnOk P w K mg base CX0 2 f_neartable fd_neartable ["places", "ties"] spNear) : FnOk P w K mg base CX0 3 f fd ["self", "places", "ties"] (spInW c_Web) := by
  refine F.ok sc_iWeb (fun vs H Q E h => ?_) (fun cdv A outer s H vs Q E hr h => ?_)
  · obtain ⟨x, p, t, dx, Ps, E', rfl, _⟩ := h
    rfl
  · obtain ⟨x, p, t, dx, Ps, E', rfl, hx, AR, F, q⟩ := h
    refine ⟨_, (pss_cons (ps_expr (pe_call G_checkplaces (hr.mono (by omega)) (by rfl) D_checkplaces.g D_checkplaces.F.kp D_checkplaces.b .nil pass0 (pa_cons (pv 1) pa_nil)))
      (pss_cons (ps_expr (pe_call G_checkties (hr.mono (by omega)) (by rfl) D_checkties.g D_checkties.F.kp D_checkties.b .nil pass0 (pa_cons (pv 1) (pa_cons (pv 2) pa_nil))))
      (pss_cons (ps_expr (pe_call G_checkrepeats (hr.mono (by omega)) (by rfl) D_checkrepeats.g D_checkrepeats.F.kp D_checkrepeats.b .nil pass0 (pa_cons (pv 1) (pa_cons (pv 2) pa_nil))))
      (pss_cons (ps_fldC CL_Web NA_Web_places (pv 0) (pe_callB (call_sortedTK (K := K) (hu64 hr)) (by rfl) B_sorted (by decide +kernel) (pa_cons (pv 1) pa_nil)))
      (pss_cons (ps_fldC CL_Web NA_Web_ties (pv 0) (pe_callB (cr_sortedPK (K := K) (hu64 hr)) (by rfl) B_sorted (by decide +kernel) (pa_cons (pe_lc (own := [("one", 3), ("two", 4)]) (g := gTup K 2 (gCons (gName 3) (gCons (gName 4) gNil))) (tt := tYes) (by rfl) sc_iWeb.nd (pi_listK (K := K) (pv 2)) (blkOk_by (own := [("one", 3), ("two", 4)]) (N := ["self", "places", "ties", "one", "two"]) (sc := defScope s_iWeb) (by decide +kernel)) (fun _ _ _ _ _ => pg_tup (by rfl) (pgs_cons (pg_name (i := 3) sc_iWeb.nd rfl (Or.inl rfl)) (pgs_cons (pg_name (i := 4) sc_iWeb.nd rfl (Or.inl rfl)) pgs_nil))) (fun _ _ _ _ _ => pts_nil) (fun _ _ _ _ _ => (pe_call G_orderedpair (hr.mono (by omega)) (by rfl) D_orderedpair.g D_orderedpair.F.kp D_orderedpair.b .nil pass0 (pa_cons (pv 3) (pa_cons (pv 4) pa_nil))))) pa_nil)))
      (pss_one (ps_fldC CL_Web NA_Web_near (pv 0) (pe_call G_neartable (hr.mono (by omega)) (by rfl) D_neartable.g D_neartable.F.kp D_neartable.b .nil pass0 (pa_cons (pe_fldC CL_Web NA_Web_places (pv 0) (by rfl)) (pa_cons (pe_fldC CL_Web NA_Web_ties (pv 0) (by rfl)) pa_nil)))))))))), ?_⟩
    have px : p ≠ x := fun z => by have := AR.1; rw [z, hx] at this; cases this
    obtain ⟨hp, vs, ht, hpt⟩ := id AR
    have tx : t ≠ x := fun z => by rw [z, hx] at ht; cases ht
    walk_at "st"
    refine ⟨p, Ps, rfl, hp, F.ne, F.p20, F.nam, fun H1 k1 => ?_⟩
    walk_at "st"
    refine ⟨p, t, Ps, E', rfl, AR.keep k1, F, fun H2 k2 => ?_⟩
    walk_at "st"
    refine ⟨p, t, Ps, E', rfl, (AR.keep k1).keep k2, F, fun H3 k3 => ?_⟩
    have k03 := (k1.trans k2).trans k3
    have hx3 := k03 _ _ hx
    clear k1 k2 k3
    walk_at "st"
    refine ⟨Ps, sq_of (k03 _ _ hp), fun pl npl => ?_⟩
    have nx : x ≠ pl := ne_of_none hx3 npl
    refine ⟨dx, [], (upd_ne nx).trans hx3, by show 0 < 1000; omega, ?_⟩
    have b4 : But x H (L2.upd (L2.upd H3 pl (.lst ((sortS Ps).map V.str))) x (.ins c_Web dx (putF (Str.ofString "_places") (.ref pl) []))) := fun b o hb e => (upd_ne hb).trans (Keeps.new npl _ _ (k03 _ _ e))
    have x4 : L2.upd (L2.upd H3 pl (.lst ((sortS Ps).map V.str))) x (.ins c_Web dx (putF (Str.ofString "_places") (.ref pl) [])) x = some (.ins c_Web dx (putF (Str.ofString "_places") (.ref pl) [])) := upd_same
    have p4 : L2.upd (L2.upd H3 pl (.lst ((sortS Ps).map V.str))) x (.ins c_Web dx (putF (Str.ofString "_places") (.ref pl) [])) pl = some (.lst ((sortS Ps).map V.str)) := (upd_ne nx.symm).trans upd_same
    generalize L2.upd (L2.upd H3 pl (.lst ((sortS Ps).map V.str))) x (.ins c_Web dx (putF (Str.ofString "_places") (.ref pl) [])) = H4 at b4 x4 p4 ⊢
    walk_at "st"
    refine ⟨⟨_, sq_of (b4 _ _ tx ht)⟩, fun D nD => ?_⟩
    refine r_lcP vs (fun i H' => Keeps H4 H' ∧ ∃ ys, H' D = some (.lst ys) ∧ PT H' ((E'.take i).map ordP) ys) ⟨Keeps.new nD, [], upd_same, PT.nil⟩ (fun i H' _ h => sq_of (h.1 _ _ (b4 _ _ tx ht))) ?_ ?_
    · rintro i v H' hv ⟨k, ys, hD, hy⟩
      have hi : i < E'.length := by have := lt_of_get hv; have := hpt.1; omega
      have he := List.getElem?_eq_getElem hi
      generalize E'[i] = e0 at he
      obtain ⟨u, rfl, hu⟩ := hpt.2 i _ v he hv
      have ux : u ≠ x := fun z => by rw [z, hx] at hu; cases hu
      refine ⟨u, _, _, rfl, tup_at (k _ _ (b4 _ _ ux hu)), rfl, fun N kN => ?_⟩
      walk_at "rt"
      refine ⟨_, _, rfl, fun b nb => ?_⟩
      have h1 : ys.length ≤ 60 := by rw [hy.1, List.length_map, List.length_take]; have := F.e60; omega
      have D1 : L2.upd H' b (.tup [.str (ordP e0).1, .str (ordP e0).2]) D = some (.lst ys) := (upd_ne (ne_of_none hD nb)).trans hD
      have y1 : PT (L2.upd H' b (.tup [.str (ordP e0).1, .str (ordP e0).2])) ((E'.take (i + 1)).map ordP) (ys ++ [.ref b]) := by
        rw [take_snoc he, List.map_append]
        exact (hy.keeps (Keeps.new nb)).snoc upd_same
      exact kN (.ref b) _ ys D1 (size_ok (by omega)) ⟨(k.put (k.free nb)).put nD, _, upd_same, y1.upd D1 fun xs z => by cases z⟩
    · rintro H5 ⟨k5, ys, hD, hy⟩
      rw [show (E'.take vs.length).map ordP = E'.map ordP by rw [hpt.1, List.take_length]] at hy
      walk_at "rt"
      refine ⟨_, ys, sq_of hD, hy, fun y2 tl py ntl => ?_⟩
      have x5 := k5 _ _ x4
      have xtl : x ≠ tl := ne_of_none x5 ntl
      refine ⟨dx, _, (upd_ne xtl).trans x5, by rw [show (putF (Str.ofString "_places") (V.ref pl) []).length = 1 from rfl]; omega, ?_⟩
      have b6 : But x H (L2.upd (L2.upd H5 tl (.lst y2)) x (.ins c_Web dx (putF (Str.ofString "_ties") (.ref tl) (putF (Str.ofString "_places") (.ref pl) [])))) := fun b o hb e => (upd_ne hb).trans (Keeps.new ntl _ _ (k5 _ _ (b4 _ _ hb e)))
      have x6 : L2.upd (L2.upd H5 tl (.lst y2)) x (.ins c_Web dx (putF (Str.ofString "_ties") (.ref tl) (putF (Str.ofString "_places") (.ref pl) []))) x = some (.ins c_Web dx (putF (Str.ofString "_ties") (.ref tl) (putF (Str.ofString "_places") (.ref pl) []))) := upd_same
      have p6 : L2.upd (L2.upd H5 tl (.lst y2)) x (.ins c_Web dx (putF (Str.ofString "_ties") (.ref tl) (putF (Str.ofString "_places") (.ref pl) []))) pl = some (.lst ((sortS Ps).map V.str)) := (upd_ne nx.symm).trans ((Keeps.new ntl) _ _ (k5 _ _ p4))
      have t6 : L2.upd (L2.upd H5 tl (.lst y2)) x (.ins c_Web dx (putF (Str.ofString "_ties") (.ref tl) (putF (Str.ofString "_places") (.ref pl) []))) tl = some (.lst y2) := (upd_ne xtl.symm).trans upd_same
      have y6 : PT (L2.upd (L2.upd H5 tl (.lst y2)) x (.ins c_Web dx (putF (Str.ofString "_ties") (.ref tl) (putF (Str.ofString "_places") (.ref pl) [])))) (sortP (E'.map ordP)) y2 := (py.keeps (Keeps.new ntl)).upd ((upd_ne xtl).trans x5) fun xs z => by cases z
      generalize L2.upd (L2.upd H5 tl (.lst y2)) x (.ins c_Web dx (putF (Str.ofString "_ties") (.ref tl) (putF (Str.ofString "_places") (.ref pl) []))) = H6 at b6 x6 p6 t6 y6 ⊢
      walk_at "rt"
      have l1 : (putF (Str.ofString "_ties") (V.ref tl) (putF (Str.ofString "_places") (.ref pl) [])).lookup (Str.ofString "_places") = some (.ref pl) := by rw [lookup_putF, if_neg (by decide +kernel), lookup_putF, if_pos rfl]
      have l2 : (putF (Str.ofString "_ties") (V.ref tl) (putF (Str.ofString "_places") (.ref pl) [])).lookup (Str.ofString "_ties") = some (.ref tl) := by rw [lookup_putF, if_pos rfl]
      refine ⟨dx, _, x6, _, l1, dx, _, x6, _, l2, pl, tl, sortS Ps, sortP (E'.map ordP), rfl, ⟨p6, y2, t6, y6⟩, by rw [(sortS_pm Ps).length_eq]; exact F.p20, by rw [(sortP_pm _).length_eq, List.length_map]; exact F.e60, fun e he => ?_, fun nd H7 k7 _ hnd => ?_⟩
      · obtain ⟨e0, h0, rfl⟩ := List.mem_map.mp ((sortP_pm _).mem_iff.mp he)
        have := ordP_in (F.inP e0 h0)
        exact ⟨(sortS_pm Ps).mem_iff.mpr this.1, (sortS_pm Ps).mem_iff.mpr this.2⟩
      · have x7 := k7 _ _ x6
        refine ⟨dx, _, x7, Nat.lt_of_le_of_lt (Nat.le_refl 2) (by omega), q _ (fun b o hb e => (upd_ne hb).trans (k7 _ _ (b6 _ _ hb e))) ⟨pl, tl, nd, dx, y2, upd_same, (upd_ne nx.symm).trans (k7 _ _ p6), (upd_ne xtl.symm).trans (k7 _ _ t6), (y6.keeps k7).upd x7 (fun xs z => by cases z), hnd.upd x7 (fun xs z => by cases z) (fun xs z => by cases z)⟩⟩
theorem ok_Wpl {c_Web f : Addr} {fd : FuncData} (B : Bi mg) (F : Fun K "places" "Web.places" s_mWeb_places f fd) (CL_Web : Cls K c_Web) (NA_Web_places : NoAttr K c_Web "_places") : FnOk P w K mg base CX0 1 f fd ["self"] (spWpl c_Web) := by
  refine F.ok sc_mWeb_places (fun vs H Q E h => ?_) (fun cdv A outer s H vs Q E hr h => ?_)
  · obtain ⟨x, Ps, T, rfl, _⟩ := h
    rfl
  · obtain ⟨x, Ps, T, rfl, ⟨pl, tl, nd, dx, ys, W⟩, q⟩ := h
    refine ⟨_, (pss_one (ps_ret (pe_callTy (call_listK (K := K)) (by rfl) B.list_ (by decide +kernel) (pa_cons (pe_fldC CL_Web NA_Web_places (pv 0) (by rfl)) pa_nil)))), ?_⟩
    walk_at "rt"
    exact ⟨dx, _, W.ob, _, webF_places _ _ _, pl, rfl, _, .inl (sq_of W.pl_), q⟩
theorem ok_Wti {c_Web f : Addr} {fd : FuncData} (B : Bi mg) (F : Fun K "ties" "Web.ties" s_mWeb_ties f fd) (CL_Web : Cls K c_Web) (NA_Web_ties : NoAttr K c_Web "_ties") : FnOk P w K mg base CX0 1 f fd ["self"] (spWti c_Web) := by
  refine F.ok sc_mWeb_ties (fun vs H Q E h => ?_) (fun cdv A outer s H vs Q E hr h => ?_)
  · obtain ⟨x, Ps, T, rfl, _⟩ := h
    rfl
  · obtain ⟨x, Ps, T, rfl, ⟨pl, tl, nd, dx, ys, W⟩, q⟩ := h
    refine ⟨_, (pss_one (ps_ret (pe_callTy (call_listK (K := K)) (by rfl) B.list_ (by decide +kernel) (pa_cons (pe_fldC CL_Web NA_Web_ties (pv 0) (by rfl)) pa_nil)))), ?_⟩
    walk_at "rt"
    exact ⟨dx, _, W.ob, _, webF_ties _ _ _, tl, rfl, _, .inl (sq_of W.tl_), fun l nl => q l ys nl W.pt⟩
theorem ok_Wln {c_Web f : Addr} {fd : FuncData} (B : Bi mg) (F : Fun K "__len__" "Web.__len__" s_mWeb_len f fd) (CL_Web : Cls K c_Web) (NA_Web_places : NoAttr K c_Web "_places") : FnOk P w K mg base CX0 1 f fd ["self"] (spWln c_Web) := by
  refine F.ok sc_mWeb_len (fun vs H Q E h => ?_) (fun cdv A outer s H vs Q E hr h => ?_)
  · obtain ⟨x, Ps, T, rfl, _⟩ := h
    rfl
  · obtain ⟨x, Ps, T, rfl, ⟨pl, tl, nd, dx, ys, W⟩, q⟩ := h
    refine ⟨_, (pss_one (ps_ret (pe_callB (call_lenXK (K := K)) (by rfl) B.len PySem.boot_len (pa_cons (pe_fldC CL_Web NA_Web_places (pv 0) (by rfl)) pa_nil)))), ?_⟩
    walk_at "rt"
    refine ⟨dx, _, W.ob, _, webF_places _ _ _, pl, rfl, _, .inl (sq_of W.pl_), ?_⟩
    rw [List.length_map]
    exact q
theorem ok_Wit {c_Web f : Addr} {fd : FuncData} (B : Bi mg) (B_iter : mg "iter" = none) (F : Fun K "__iter__" "Web.__iter__" s_mWeb_iter f fd) (CL_Web : Cls K c_Web) (NA_Web_places : NoAttr K c_Web "_places") : FnOkS P w K mg base CX0 1 f fd ["self"] (spIter K (WebR c_Web)) := by
  refine okS F sc_mWeb_iter (fun n vs H Q E h => ?_) (fun cdv A outer s H vs Q E hr h => ?_)
  · obtain ⟨x, l, zs, rfl, _⟩ := h
    rfl
  · obtain ⟨x, l, zs, rfl, ⟨tl, nd, dx, ob⟩, hz, q⟩ := h
    refine ⟨_, (pss_one (ps_ret (pe_callB ItX.call_iterN (by rfl) B_iter (by decide +kernel) (pa_cons (pe_fldC CL_Web NA_Web_places (pv 0) (by rfl)) pa_nil)))), ?_⟩
    walk_at "rt"
    exact ⟨dx, _, ob, _, webF_places _ _ _, l, rfl, ⟨zs, hz⟩, q⟩
end
/-! ### == of rows of texts and of pairs -/
theorem eqv_strs : ∀ a b : List Str, PyData.eqv (.list (a.map PyData.str)) (.list (b.map PyData.str)) = decide (a = b) := by
  have key : ∀ a b : List Str, PyData.eqvAll (a.map PyData.str) (b.map PyData.str) = decide (a = b) := by
    intro a
    induction a with
    | nil => intro b; cases b <;> rfl
    | cons x a ih =>
      intro b
      cases b with
      | nil => rfl
      | cons y b =>
        show ((x == y) && PyData.eqvAll (a.map PyData.str) (b.map PyData.str)) = _
        rw [ih]
        by_cases h : x = y <;> by_cases g : a = b <;> simp [h, g]
  intro a b
  exact key a b
theorem eqv_prs : ∀ a b : List (Str × Str), PyData.eqv (.list (a.map fun p => PyData.tuple [.str p.1, .str p.2])) (.list (b.map fun p => PyData.tuple [.str p.1, .str p.2])) = decide (a = b) := by
  have key : ∀ a b : List (Str × Str), PyData.eqvAll (a.map fun p => PyData.tuple [.str p.1, .str p.2]) (b.map fun p => PyData.tuple [.str p.1, .str p.2]) = decide (a = b) := by
    intro a
    induction a with
    | nil => intro b; cases b <;> rfl
    | cons x a ih =>
      intro b
      cases b with
      | nil => rfl
      | cons y b =>
        show (((x.1 == y.1) && ((x.2 == y.2) && true)) && PyData.eqvAll _ _) = _
        rw [ih]
        by_cases h : x = y
        · subst h
          by_cases g : a = b <;> simp [g]
        · have : ¬ (x.1 = y.1 ∧ x.2 = y.2) := fun z => h (Prod.ext z.1 z.2)
          by_cases h1 : x.1 = y.1 <;> by_cases h2 : x.2 = y.2 <;> simp_all
  intro a b
  exact key a b
theorem shaped_strs {a : List Str} (h : ∀ x ∈ a, PyData.strOk x = true) : SeqAt.shaped (.list (a.map PyData.str)) = true := by
  have h1 : ∀ a : List Str, (∀ x ∈ a, PyData.strOk x = true) → PyData.canLayAll0 (a.map PyData.str) = true := by
    intro a
    induction a with
    | nil => intro _; rfl
    | cons x a ih =>
      intro h
      show (PyData.strOk x && PyData.canLayAll0 (a.map PyData.str)) = true
      rw [h x List.mem_cons_self, ih fun y hy => h y (List.mem_cons_of_mem _ hy)]
      rfl
  have h2 : ∀ a : List Str, PyData.depthAll (a.map PyData.str) = 0 := by
    intro a
    induction a with
    | nil => simp [PyData.depthAll]
    | cons x a ih => simp [PyData.depthAll, PyData.depth, ih]
  unfold SeqAt.shaped
  rw [Bool.and_eq_true]
  refine ⟨h1 a h, decide_eq_true ?_⟩
  simp [PyData.depth, h2]
theorem shaped_prs {a : List (Str × Str)} (h : ∀ x ∈ a, PyData.strOk x.1 = true ∧ PyData.strOk x.2 = true) : SeqAt.shaped (.list (a.map fun p => PyData.tuple [.str p.1, .str p.2])) = true := by
  have h1 : ∀ a : List (Str × Str), (∀ x ∈ a, PyData.strOk x.1 = true ∧ PyData.strOk x.2 = true) → PyData.canLayAll0 (a.map fun p => PyData.tuple [.str p.1, .str p.2]) = true := by
    intro a
    induction a with
    | nil => intro _; rfl
    | cons x a ih =>
      intro h
      show ((PyData.strOk x.1 && (PyData.strOk x.2 && true)) && PyData.canLayAll0 _) = true
      rw [(h x List.mem_cons_self).1, (h x List.mem_cons_self).2, ih fun y hy => h y (List.mem_cons_of_mem _ hy)]
      rfl
  have h2 : ∀ a : List (Str × Str), PyData.depthAll (a.map fun p => PyData.tuple [.str p.1, .str p.2]) ≤ 1 := by
    intro a
    induction a with
    | nil => simp [PyData.depthAll]
    | cons x a ih =>
      simp only [List.map_cons, PyData.depthAll, PyData.depth]
      omega
  unfold SeqAt.shaped
  rw [Bool.and_eq_true]
  refine ⟨h1 a h, decide_eq_true ?_⟩
  have := h2 a
  simp only [PyData.depth]
  omega
theorem dp_strs {K : PySem.W.Frag} {H : Hp} : ∀ a : List Str, DpAll K H (a.map V.str) (a.map PyData.str)
  | [] => .nil
  | x :: a => .cons (.str x) (dp_strs a)
theorem dp_prs {K : PySem.W.Frag} {H : Hp} : ∀ {T : List (Str × Str)} {vs : List V}, PT H T vs → DpAll K H vs (T.map fun p => PyData.tuple [.str p.1, .str p.2])
  | [], [], _ => .nil
  | [], v :: vs, h => nomatch h.1
  | p :: T, [], h => nomatch h.1
  | p :: T, v :: vs, h => by
    obtain ⟨t, rfl, ht⟩ := h.2 0 p v rfl rfl
    exact .cons (.tup (tup_at ht) (.cons (.str _) (.cons (.str _) .nil))) (dp_prs ⟨Nat.succ.inj h.1, fun i q u h1 h2 => h.2 (i + 1) q u h1 h2⟩)
/-- isinstance of an own class is known -/
structure IsaC (K : PySem.W.Frag) (C : Addr) : Prop where
  cl : Cls K C
  ha : PySem.W.findIn K (.ref C) "__class__" = some (some (.builtin "object.__class__"))
  hn : PySem.W.specialIn K (.builtin "object.__class__") "__get__" = some (some (.builtin "getset_descriptor.__get__"))
  ht : PySem.W.takesIn K (.builtin "object.__class__") = some true
  hm : PySem.W.mroIn K C (.type "object") = some true
theorem IsaC.ty {K : PySem.W.Frag} {C a dx : Addr} {H : Hp} {fs : List (Str × V)} (h : IsaC K C) (e : H a = some (.ins C dx fs)) : TyOf K H (.ref a) (.ref C) := .ins e h.cl h.ha h.hn h.ht h.hm
theorem kit_self {K : PySem.W.Frag} {C : Addr} : PySem.W.kitOne K (.ref C) (.ref C) = some true := by
  unfold PySem.W.kitOne
  rw [if_pos (by simp)]
section
variable {P : Program} {w : World} {K : PySem.W.Frag} {mg : Str → Option Value} {base : Heap}
theorem ok_Weq {c_Web f : Addr} {fd : FuncData} (B : Bi mg) (F : Fun K "__eq__" "Web.__eq__" s_mWeb_eq f fd) (IC : IsaC K c_Web) (CL_Web : Cls K c_Web) (NA_Web_places : NoAttr K c_Web "_places") (NA_Web_ties : NoAttr K c_Web "_ties") (gc_Web : mg "Web" = some (.ref c_Web)) : FnOk P w K mg base CX0 2 f fd ["self", "other"] (spWeq c_Web) := by
  refine F.ok sc_mWeb_eq (fun vs H Q E h => ?_) (fun cdv A outer s H vs Q E hr h => ?_)
  · obtain ⟨x, y, Ps, T, Ps', T', rfl, _⟩ := h
    rfl
  · obtain ⟨x, y, Ps, T, Ps', T', rfl, ⟨pl, tl, nd, dx, ys, W⟩, ⟨pl', tl', nd', dx', ys', W'⟩, O, O', q⟩ := h
    refine ⟨_, (pss_one (ps_ret (pe_and (pe_callB (call_isC (K := K)) (by rfl) B.isinstance (by decide +kernel) (pa_cons (pv 1) (pa_cons (pe_glob (v := .ref c_Web) (by rfl) gc_Web rfl) pa_nil))) (pe_and (pe_cmpR (op_eqDK (K := K) (hu64 hr)) (pe_fldC CL_Web NA_Web_places (pv 0) (by rfl)) (pe_fldC CL_Web NA_Web_places (pv 1) (by rfl)) (nomark _)) (pe_one (pe_cmpR (op_eqDK (K := K) (hu64 hr)) (pe_fldC CL_Web NA_Web_ties (pv 0) (by rfl)) (pe_fldC CL_Web NA_Web_ties (pv 1) (by rfl)) (nomark _))))))), ?_⟩
    walk_at "rt"
    have sP : ∀ {Ps : List Str} {T : List (Str × Str)}, WebOk Ps T → SeqAt.shaped (.list (Ps.map PyData.str)) = true := fun O => shaped_strs fun x hx => (O.nam x hx).ok
    have sT : ∀ {Ps : List Str} {T : List (Str × Str)}, WebOk Ps T → SeqAt.shaped (.list (T.map fun p => PyData.tuple [.str p.1, .str p.2])) = true := fun O => shaped_prs fun e he => ⟨(O.nam _ (O.inP e he).1).ok, (O.nam _ (O.inP e he).2).ok⟩
    refine ⟨_, IC.ty W'.ob, true, kit_self, ?_⟩
    simp only [if_true]
    refine ⟨dx, _, W.ob, _, webF_places _ _ _, dx', _, W'.ob, _, webF_places _ _ _, _, .lst (sq_of W.pl_) (dp_strs Ps), _, .lst (sq_of W'.pl_) (dp_strs Ps'), sP O, sP O', ?_⟩
    rw [eqv_strs]
    by_cases hP : Ps = Ps'
    · rw [if_pos (decide_eq_true hP)]
      refine ⟨dx, _, W.ob, _, webF_ties _ _ _, dx', _, W'.ob, _, webF_ties _ _ _, _, .lst (sq_of W.tl_) (dp_prs W.pt), _, .lst (sq_of W'.tl_) (dp_prs W'.pt), sT O, sT O', ?_⟩
      rw [eqv_prs]
      rw [show (decide (Ps = Ps' ∧ T = T')) = decide (T = T') by simp [hP]] at q
      exact q
    · rw [if_neg (by simp [hP])]
      rw [show (decide (Ps = Ps' ∧ T = T')) = false by simp [hP]] at q
      exact q
end
end K01
namespace K01
open PySem PySem.Spec PyProof.Rows L2 TL HotExc Tw WX
local macro_rules | `(tactic| walk_at "rd") => `(tactic| simp only [start1, wipe, isR, isBool, isInt, isStr, isLst, isTup, tAsg, gName, gSub, tVar, tC, tOp, tUn, tTest, tIfS, tRet, tRetN, tDrop, tB, tAnd, tOr, tNot, tAndV, tOrV, tNotV, tIf, tCB, tCons, tNil, tNext, tCall, tBM, tTup, tLst, rU, rInW, rNinW, Int.reduceNeg, tG, tG2, sP, tFldC, sFldC, tProp, tMeth, tMake, rOwnC, rLenO, rIsC, rNoT, tAddT, tSAddK, rSAddK, rSInK, rSet0K, rSet0T, rMinS, rMaxS, rSortedQ, rSortedT, rEqD, rNeD, rIxD, dcL_eq, dcZ_eq, lcO_eq, forE_eq, forT_eq, lcS_eq, ItX.rIterN, iOwn, List.append_nil, tDisp, tPairs, tCallS, tCallSD, tCallT, StX.tStar, tCallK, tCallKS, rTupOf, tDrop, rI0, rI, rEq, rNe, scal, forR_eq, forR2_eq, forS_eq, forL_eq, lcT_eq, lcRT_eq, lcS_eq, rLenX, rLenS, rListOf, tRevL, rMulS, rRepL, rCatL, rSumN, rMaxN, tBM0, rPop, tAug, ipI,  tPart, tNoPart, CwR.tReplC, rAllK, rInSg, rNinSg, sgn_inj, rAddS, rInSt, tChain, tM1, tM0, rSplitN, rJoinN, exists_eq, rIntI, rIntB, rIntS, rStrI, rAbs, rOrd, rMin, rMax, rIxL, rIxX, rSetL, rAppend, rIxS, rSlS, rSlL, tSl, List.map_cons, List.map_nil, List.replicate_succ, List.replicate_zero, List.length_cons, List.length_nil, Nat.reduceSub, Nat.reduceAdd, Nat.zero_add, Nat.sub_self, List.getElem?_cons_zero, List.getElem?_cons_succ, List.set_cons_zero, List.set_cons_succ, List.append_nil, List.nil_append, List.cons_append, Option.some.injEq, not_true_eq_false, reduceCtorEq, exists_eq_left', exists_eq_left, exists_eq', exists_and_left, exists_and_right, V.int.injEq, V.str.injEq, V.bl.injEq, V.ref.injEq, List.cons.injEq, and_true, true_and, and_assoc, decide_eq_true_eq, Bool.not_eq_true', decide_eq_false_iff_not, ite_true, ite_false, if_true, if_false, Bool.not_true, Bool.not_false, Bool.false_eq_true, eq_self_iff_true, reduceIte, ne_eq, Int.reduceEq, not_false_eq_true])
local macro_rules | `(tactic| walk_at "rt") => `(tactic| try walk_at "rd")
local macro_rules | `(tactic| walk_at "st") => `(tactic| (walk_at "rt"; refine r_seq ?_; walk_at "rt"))
local macro_rules | `(tactic| walk_at "hp") => `(tactic| first | assumption | exact upd_same | (rw [upd_ne (by assumption)]; walk_at "hp"))
local macro_rules | `(tactic| walk_at "ex1") => `(tactic| ((with_reducible refine Exists.intro ?w (And.intro ?hx ?_)); (case hx => first | exact sq_of (by walk_at "hp") | exact .inl (sq_of (by walk_at "hp")) | exact rfl | (show _ = some (HO.lst _); walk_at "hp"))))
local macro_rules | `(tactic| walk_at "ex") => `(tactic| repeat (first | walk_at "ex1" | walk_at "rd"))
abbrev s_webof : Stmt := topS 58
theorem sc_webof : FnScope ["places", "ties", "near", "place", "pairs", "pair", "tie"] ["places", "ties"] (defScope s_webof) := ⟨rfl, rfl, rfl, by decide +kernel, rfl, by decide +kernel, by decide +kernel⟩
theorem mm_ord (e : Str × Str) : ((if e.2.cps.toList < e.1.cps.toList then e.2 else e.1), (if e.1.cps.toList < e.2.cps.toList then e.2 else e.1)) = ordP e := by
  unfold ordP
  by_cases h : e.1.cps.toList < e.2.cps.toList
  · rw [if_pos h, if_pos h, if_neg (fun g => absurd (List.lt_trans h g) (List.lt_irrefl _))]
  · rw [if_neg h, if_neg h]
    by_cases g : e.2.cps.toList < e.1.cps.toList
    · rw [if_pos g]
    · rw [if_neg g]
      have : e.1 = e.2 := str_ext (List.le_antisymm (List.not_lt.mp g) (List.not_lt.mp h))
      rw [this]
/-- what the law knows of a web: its places, its ties, its table -/
def LwAt (H : Hp) (r a b : Addr) (Ps : List Str) (T : List (Str × Str)) : Prop := (∃ d, H r = some (.tup [.ref a, .ref b, .ref d]) ∧ NearAt H d Ps T) ∧ Args H a b Ps T
def LW (H : Hp) (r : Addr) (Ps : List Str) (T : List (Str × Str)) : Prop := ∃ a b, LwAt H r a b Ps T
theorem LW.keep {H H' : Hp} {r : Addr} {Ps : List Str} {T : List (Str × Str)} (h : LW H r Ps T) (k : Keeps H H') : LW H' r Ps T := let ⟨a, b, ⟨d, h1, h3⟩, h2⟩ := h; ⟨a, b, ⟨d, k _ _ h1, h3.keep k⟩, h2.keep k⟩
def spWebOf : Sp := fun vs H Q _ => ∃ (p t : Addr) (Ps : List Str) (E : List (Str × Str)), vs = [.ref p, .ref t] ∧ Args H p t Ps E ∧ Ps.length ≤ 20 ∧ E.length ≤ 60 ∧ (∀ e ∈ E, e.1 ∈ Ps ∧ e.2 ∈ Ps) ∧ ∀ r H', Keeps H H' → H r = none → LW H' r (sortS Ps) (sortP (E.map ordP)) → Q (.ref r) H'
section
variable {P : Program} {w : World} {K : PySem.W.Frag} {mg : Str → Option Value} {base : Heap}
theorem ok_webof {f : Addr} {fd : FuncData} (B : Bi mg) (B_sorted : mg "sorted" = none) (D : Dn K mg "_law_web_of" s_webof ["places", "ties"] f fd) : FnOk P w K mg base CX0 2 f fd ["places", "ties"] spWebOf := by
  refine D.F.ok sc_webof (fun vs H Q E h => ?_) (fun cdv A outer s H vs Q E hr h => ?_)
  · obtain ⟨p, t, Ps, T, rfl, _⟩ := h
    rfl
  · obtain ⟨p, t, Ps, E, rfl, ⟨hp, vs, ht, hpt⟩, h20, h60, hin, q⟩ := h
    refine ⟨_, (pss_cons (ps_set (i := 2) sc_webof.nd rfl (.inl rfl) pe_dnewK)
      (pss_cons (ps_for PassesOwn.never rfl (pi_listK (K := K) (pe_callB (call_sortedTK (K := K) (hu64 hr)) (by rfl) B_sorted (by decide +kernel) (pa_cons (pv 0) pa_nil))) (pg_name (i := 3) sc_webof.nd rfl (.inl rfl)) (pss_one (ps_pS (hu_of hr) (pv 2) (pv 3) (pe_lst pa_nil) rfl)))
      (pss_cons (ps_set (i := 4) sc_webof.nd rfl (.inl rfl) (pe_callB (cr_sortedPK (K := K) (hu64 hr)) (by rfl) B_sorted (by decide +kernel) (pa_cons (pe_lc (own := [("tie", 6)]) (g := gName 6) (tt := tYes) (by rfl) sc_webof.nd (pi_listK (K := K) (pv 1)) (blkOk_by (own := [("tie", 6)]) (N := ["places", "ties", "near", "place", "pairs", "pair", "tie"]) (sc := defScope s_webof) (by decide +kernel)) (fun _ _ _ _ _ => pg_name (i := 6) sc_webof.nd rfl (Or.inl rfl)) (fun _ _ _ _ _ => pts_nil) (fun _ _ _ _ _ => (pe_tup (pa_cons (pe_callB (call_minS rfl) (by rfl) B.min (by decide +kernel) (pa_cons (pe_ix (ix_sxK (K := K)) (pv 6) pe_int (fun _ _ => rfl)) (pa_cons (pe_ix (ix_sxK (K := K)) (pv 6) pe_int (fun _ _ => rfl)) pa_nil))) (pa_cons (pe_callB (call_maxS rfl) (by rfl) B.max (by decide +kernel) (pa_cons (pe_ix (ix_sxK (K := K)) (pv 6) pe_int (fun _ _ => rfl)) (pa_cons (pe_ix (ix_sxK (K := K)) (pv 6) pe_int (fun _ _ => rfl)) pa_nil))) pa_nil))))) pa_nil)))
      (pss_cons (ps_for PassesOwn.never rfl (pi_listK (K := K) (pv 4)) (pg_name (i := 5) sc_webof.nd rfl (.inl rfl)) (pss_cons (ps_expr (pe_bm PySem.F.plainAttrs_list PySem.F.slot_list_append PySem.F.type_list_append mt_append (pe_gS (hu_of hr) (pv 2) (pe_ix (ix_sxK (K := K)) (pv 5) pe_int (fun _ _ => rfl)) (fun _ _ => rfl)) (pa_cons (pe_ix (ix_sxK (K := K)) (pv 5) pe_int (fun _ _ => rfl)) pa_nil)))
      (pss_one (ps_expr (pe_bm PySem.F.plainAttrs_list PySem.F.slot_list_append PySem.F.type_list_append mt_append (pe_gS (hu_of hr) (pv 2) (pe_ix (ix_sxK (K := K)) (pv 5) pe_int (fun _ _ => rfl)) (fun _ _ => rfl)) (pa_cons (pe_ix (ix_sxK (K := K)) (pv 5) pe_int (fun _ _ => rfl)) pa_nil))))))
      (pss_cons (ps_for PassesOwn.never rfl (pi_listK (K := K) (pe_callB (call_sortedTK (K := K) (hu64 hr)) (by rfl) B_sorted (by decide +kernel) (pa_cons (pv 0) pa_nil))) (pg_name (i := 3) sc_webof.nd rfl (.inl rfl)) (pss_one (ps_pS (hu_of hr) (pv 2) (pv 3) (pe_callB (call_sortedTK (K := K) (hu64 hr)) (by rfl) B_sorted (by decide +kernel) (pa_cons (pe_gS (hu_of hr) (pv 2) (pv 3) (fun _ _ => rfl)) pa_nil)) rfl)))
      (pss_one (ps_ret (pe_tup (pa_cons (pe_callB (call_sortedTK (K := K) (hu64 hr)) (by rfl) B_sorted (by decide +kernel) (pa_cons (pv 0) pa_nil)) (pa_cons (pv 4) (pa_cons (pv 2) pa_nil))))))))))), ?_⟩
    walk_at "st"
    intro nt nnt
    have k0 : Keeps H (L2.upd H nt (.dK [])) := Keeps.new nnt
    have hn0 : L2.upd H nt (.dK []) nt = some (.dK []) := upd_same
    generalize L2.upd H nt (.dK []) = H0 at *
    walk_at "st"
    refine ⟨Ps, sq_of (k0 _ _ hp), fun s1 ns1 => ⟨⟨_, sq_of upd_same⟩, ?_⟩⟩
    have k1 : Keeps H (L2.upd H0 s1 (.lst ((sortS Ps).map V.str))) := k0.trans (Keeps.new ns1)
    have hs1 : L2.upd H0 s1 (.lst ((sortS Ps).map V.str)) s1 = some (.lst ((sortS Ps).map V.str)) := upd_same
    have hn1 : L2.upd H0 s1 (.lst ((sortS Ps).map V.str)) nt = some (.dK []) := (upd_ne (ne_of_none hn0 ns1)).trans hn0
    have spl := (sortS_pm Ps).length_eq
    have ns1' : H s1 = none := k0.free ns1
    generalize L2.upd H0 s1 (.lst ((sortS Ps).map V.str)) = H1 at *
    refine r_list ((sortS Ps).map V.str) (fun i σ H' => (∃ b c d e, σ = [some (.ref p), some (.ref t), some (.ref nt), b, c, d, e]) ∧ Keeps H H' ∧ H' s1 = some (.lst ((sortS Ps).map V.str)) ∧ ∃ kvs, H' nt = some (.dK kvs) ∧ kvs.length ≤ i ∧ NearE H H' kvs ((sortS Ps).take i) (nears [])) ⟨⟨_, _, _, _, rfl⟩, k1, hs1, [], hn1, Nat.le_refl _, NearE.nil⟩ (fun i σ H' _ h => sq_of h.2.2.1) ?_ ?_
    · rintro i v σ H' hx ⟨⟨b, c, d, e, rfl⟩, k, hs', kvs, hn, hl, hw⟩ N kk
      obtain ⟨z, hz, rfl⟩ := get_map hx
      have hi := lt_of_get hz
      walk_at "rt"
      refine ⟨Nat.zero_le _, fun l nl => ⟨kvs, (upd_ne (ne_of_none hn nl)).trans hn, size_ok (by omega), kk _ _ ⟨⟨_, _, _, _, rfl⟩, (k.put (k.free nl)).put nnt, ?_, _, upd_same, ?_, ?_⟩⟩⟩
      · rw [upd_ne (fun z => by rw [z, hn] at hs'; cases hs'), upd_ne (ne_of_none hs' nl)]
        exact hs'
      · have := length_putK kvs (Sum.inr z) (.ref l)
        omega
      · rw [take_snoc hz]
        refine hw.put nl (k.free nl) (fun p xs h => ?_) (fun _ _ => rfl) ((upd_ne (fun z => by rw [← z] at hn; rw [hn] at nl; cases nl)).trans upd_same)
        rw [upd_ne (fun z => by rw [z, hn] at h; cases h), upd_ne (ne_of_none h nl)]
        exact h
    · rintro σ H2 ⟨⟨b, c, d, e, rfl⟩, k2, hs2, kvs, hn, hl, hw⟩
      rw [List.length_map, List.take_length] at hw
      rw [List.length_map] at hl
      walk_at "st"
      refine ⟨⟨_, sq_of (k2 _ _ ht)⟩, fun Dd nD => ?_⟩
      refine r_lcTL vs (fun i H' => Keeps H2 H' ∧ ∃ us, H' Dd = some (.lst us) ∧ PT H' ((E.take i).map ordP) us) (fun _ => rfl) ⟨Keeps.new nD, [], upd_same, PT.nil⟩ (fun i H' _ h => sq_of (h.1 _ _ (k2 _ _ ht))) ?_ ?_
      · rintro i v H' hx ⟨k, us, hD, hus⟩ N kN
        have hi : i < E.length := by have := lt_of_get hx; have := hpt.1; omega
        have he := List.getElem?_eq_getElem hi
        generalize E[i] = e0 at he
        obtain ⟨u, rfl, hu⟩ := hpt.2 i _ v he hx
        have hu' := (k2.trans k) _ _ hu
        have tt : ∀ H'' : Hp, H'' u = some (.tup [.str e0.1, .str e0.2]) → SqL K H'' u [.str e0.1, .str e0.2] ∨ SqT K H'' u [.str e0.1, .str e0.2] := fun H'' h => .inr (tup_at h)
        walk_at "rt"
        refine ⟨_, tt _ hu', _, rfl, _, tt _ hu', _, rfl, _, rfl, _, rfl, _, tt _ hu', _, rfl, _, tt _ hu', _, rfl, _, rfl, _, rfl, by rw [PySem.sizeLine_eq]; decide, fun r nr => ?_⟩
        have rD : Dd ≠ r := ne_of_none hD nr
        refine kN _ _ us ((upd_ne rD).trans hD) (size_ok (by rw [hus.1, List.length_map, List.length_take]; omega)) ⟨(k.put (k.free nr)).put nD, _, upd_same, ?_⟩
        rw [take_snoc he, List.map_append]
        refine PT.snoc ((hus.keeps (Keeps.new nr)).upd ((upd_ne rD).trans hD) (fun xs h => by cases h)) ?_
        rw [upd_ne rD.symm, upd_same, ← mm_ord e0]
      rintro H3 ⟨k3, us, hD, hus⟩
      have el : E.take vs.length = E := List.take_of_length_le (by rw [hpt.1]; exact Nat.le_refl _)
      rw [el] at hus
      refine ⟨_, _, sq_of hD, hus, fun ys pr hys npr => ?_⟩
      have k23 := k3.trans (Keeps.new (x := .lst ys) npr)
      have k4 := k2.trans k23
      have hpr : L2.upd H3 pr (.lst ys) pr = some (.lst ys) := upd_same
      have hys := hys.keeps (Keeps.new (x := .lst ys) npr)
      have hne : ∀ k l, valV kvs k = some (.ref l) → l ≠ pr := fun k l hv z => by
        obtain ⟨x, hx, e⟩ := hw.key _ _ hv
        obtain ⟨l', h1, _, h⟩ := hw.at' x hx
        rw [e, h1] at hv
        cases hv
        have := k3 _ _ h
        rw [z, npr] at this
        cases this
      have hn4 := k23 _ _ hn
      have hw4 := hw.keep fun l xs _ h => k23 _ _ h
      have npr0 := k2.free (k3.free npr)
      generalize L2.upd H3 pr (.lst ys) = H4 at *
      have hT : (sortP (E.map ordP)).length = E.length := by rw [(sortP_pm _).length_eq, List.length_map]
      have hin' : ∀ e ∈ sortP (E.map ordP), e.1 ∈ sortS Ps ∧ e.2 ∈ sortS Ps := fun e he => by
        obtain ⟨e0, h0, rfl⟩ := List.mem_map.mp ((sortP_pm _).mem_iff.mp he)
        have := ordP_in (hin e0 h0)
        exact ⟨(sortS_pm Ps).mem_iff.mpr this.1, (sortS_pm Ps).mem_iff.mpr this.2⟩
      generalize hTT : sortP (E.map ordP) = T at *
      walk_at "st"
      refine ⟨⟨_, sq_of hpr⟩, ?_⟩
      refine r_list ys (fun i σ H' => (∃ b c e, σ = [some (.ref p), some (.ref t), some (.ref nt), b, some (.ref pr), c, e]) ∧ Keeps H H' ∧ H' pr = some (.lst ys) ∧ PT H' T ys ∧ H' nt = some (.dK kvs) ∧ NearE H H' kvs (sortS Ps) (nears (T.take i))) ⟨⟨_, _, _, rfl⟩, k4, hpr, hys, hn4, hw4⟩ (fun i σ H' _ h => sq_of h.2.2.1) ?_ ?_
      · rintro i v σ H' hx ⟨⟨b, c, d, rfl⟩, k, hpr', hpt', hn', hw'⟩ N kk
        have hi : i < T.length := by have := lt_of_get hx; have := hpt'.1; omega
        have he := List.getElem?_eq_getElem hi
        have hm := hin' _ (List.getElem_mem hi)
        generalize T[i] = e0 at he hm
        obtain ⟨u, rfl, hu⟩ := hpt'.2 i _ v he hx
        have len : ∀ x, (nears (T.take i) x).length ≤ 120 := fun x => by
          have := nears_len (T.take i) x
          rw [List.length_take] at this
          omega
        obtain ⟨l1, hv1, a1, b1⟩ := hw'.at' _ hm.1
        have tt : ∀ H'' : Hp, H'' u = some (.tup [.str e0.1, .str e0.2]) → SqL K H'' u [.str e0.1, .str e0.2] ∨ SqT K H'' u [.str e0.1, .str e0.2] := fun H'' h => .inr (tup_at h)
        have ul : u ≠ l1 := fun z => by rw [z, b1] at hu; cases hu
        have hu2 : L2.upd H' l1 (.lst ((nears (T.take i) e0.1).map V.str ++ [.str e0.2])) u = some (.tup [.str e0.1, .str e0.2]) := (upd_ne ul).trans hu
        walk_at "st"
        refine ⟨_, tt _ hu, _, rfl, _, rfl, kvs, hn', _, hv1, .inl ⟨rfl, _, sq_of b1⟩, _, tt _ hu, _, rfl, l1, rfl, _, b1, size_ok (by rw [List.length_map]; have := len e0.1; omega), ?_⟩
        have hn2 : L2.upd H' l1 (.lst ((nears (T.take i) e0.1).map V.str ++ [.str e0.2])) nt = some (.dK kvs) := (upd_ne (fun z => by rw [z, b1] at hn'; cases hn')).trans hn'
        have kp2 := k.put (p := l1) (x := .lst ((nears (T.take i) e0.1).map V.str ++ [.str e0.2])) a1
        have hw2 := hw'.app (z := e0.2) hv1 b1
        have hp2 : L2.upd H' l1 (.lst ((nears (T.take i) e0.1).map V.str ++ [.str e0.2])) pr = some (.lst ys) := (upd_ne (hne _ _ hv1).symm).trans hpr'
        have ht2 := hpt'.upd (u := .lst ((nears (T.take i) e0.1).map V.str ++ [.str e0.2])) b1 (fun xs h => by cases h)
        generalize L2.upd H' l1 (.lst ((nears (T.take i) e0.1).map V.str ++ [.str e0.2])) = H2' at hn2 kp2 hw2 hp2 ht2 hu2 ⊢
        obtain ⟨l2, hv2, a2, b2⟩ := hw2.at' _ hm.2
        refine ⟨_, tt _ hu2, _, rfl, _, rfl, kvs, hn2, _, hv2, .inl ⟨rfl, _, sq_of b2⟩, _, tt _ hu2, _, rfl, l2, rfl, _, b2, size_ok (by
          rw [List.length_map, List.length_append]
          have := len e0.2
          have : (if e0.1 = e0.2 then [e0.2] else []).length ≤ 1 := by split <;> simp
          omega), ?_⟩
        exact kk _ _ ⟨⟨_, _, _, rfl⟩, kp2.put a2, (upd_ne (hne _ _ hv2).symm).trans hp2, ht2.upd b2 (fun xs h => by cases h), (upd_ne (fun z => by rw [z, b2] at hn2; cases hn2)).trans hn2, (hw2.app hv2 b2).ext fun x _ => by rw [take_snoc he, nears_snoc]⟩
      · rintro σ H5 ⟨⟨b, c, d, rfl⟩, k5, hpr5, hpt5, hn5, hw5⟩
        walk_at "st"
        refine ⟨Ps, sq_of (k5 _ _ hp), fun s3 ns3 => ⟨⟨_, sq_of upd_same⟩, ?_⟩⟩
        have k56 : Keeps H5 (L2.upd H5 s3 (.lst ((sortS Ps).map V.str))) := Keeps.new ns3
        have hs3 : L2.upd H5 s3 (.lst ((sortS Ps).map V.str)) s3 = some (.lst ((sortS Ps).map V.str)) := upd_same
        have ns3' := k5.free ns3
        generalize L2.upd H5 s3 (.lst ((sortS Ps).map V.str)) = H6 at *
        refine r_list ((sortS Ps).map V.str) (fun i σ H' => (∃ b c e, σ = [some (.ref p), some (.ref t), some (.ref nt), b, some (.ref pr), c, e]) ∧ Keeps H H' ∧ H' s3 = some (.lst ((sortS Ps).map V.str)) ∧ H' pr = some (.lst ys) ∧ PT H' T ys ∧ ∃ kvs, H' nt = some (.dK kvs) ∧ kvs.length ≤ 20 + i ∧ NearE H H' kvs (sortS Ps) (fun x => if x ∈ (sortS Ps).take i then sortS (nears T x) else nears T x)) ⟨⟨_, _, _, rfl⟩, k5.trans k56, hs3, k56 _ _ hpr5, hpt5.keeps k56, kvs, k56 _ _ hn5, by omega, (hw5.keep (fun l xs _ h => k56 _ _ h)).ext (fun x _ => by rw [List.take_of_length_le (by rw [hpt5.1]; exact Nat.le_refl _)]; rfl)⟩ (fun i σ H' _ h => sq_of h.2.2.1) ?_ ?_
        · rintro i v σ H' hx ⟨⟨b, c, d, rfl⟩, k, hs', hpr', hpt', kvs, hn', hl', hw'⟩ N kk
          obtain ⟨z, hz, rfl⟩ := get_map hx
          have hi := lt_of_get hz
          have zP : z ∈ sortS Ps := List.mem_of_getElem? hz
          obtain ⟨l, hv0, l1, l2⟩ := hw'.at' z zP
          obtain ⟨ws, ews⟩ : ∃ ws, ws = (if z ∈ (sortS Ps).take i then sortS (nears T z) else nears T z) := ⟨_, rfl⟩
          have es : sortS ws = sortS (nears T z) := by
            rw [ews]
            split
            · exact sortS_of (List.Perm.refl _)
            · rfl
          rw [← ews] at l2
          walk_at "rt"
          refine ⟨kvs, hn', _, hv0, l, rfl, ws, sq_of l2, fun p2 np2 => ⟨kvs, (upd_ne (ne_of_none hn' np2)).trans hn', size_ok (by omega), ?_⟩⟩
          have kn : Keeps H' (L2.upd H' p2 (.lst ((sortS ws).map V.str))) := Keeps.new np2
          have hn2 := kn _ _ hn'
          refine kk _ _ ⟨⟨_, _, _, rfl⟩, (k.put (k.free np2)).put nnt, ?_, ?_, (hpt'.keeps kn).upd hn2 (fun xs h => by cases h), _, upd_same, ?_, ?_⟩
          · exact (upd_ne (fun z => by rw [z, hn'] at hs'; cases hs')).trans (kn _ _ hs')
          · exact (upd_ne (fun z => by rw [z, hn'] at hpr'; cases hpr')).trans (kn _ _ hpr')
          · have := length_putK kvs (Sum.inr z) (.ref p2)
            omega
          · refine ((hw'.put np2 (k.free np2) (fun p xs h => ?_) (g := fun x => if x ∈ (sortS Ps).take (i + 1) then sortS (nears T x) else nears T x) (fun y hy => ?_) ?_).set fun x => ⟨fun hx => (List.mem_append.mp hx).elim (fun h => h) (fun h => (List.mem_singleton.mp h) ▸ zP), fun hx => List.mem_append_left _ hx⟩)
            · exact (upd_ne (fun z => by rw [z, hn'] at h; cases h)).trans (kn _ _ h)
            · rw [take_snoc hz]
              simp only [List.mem_append, List.mem_singleton, hy, or_false]
            · rw [take_snoc hz, if_pos (List.mem_append_right _ List.mem_cons_self), ← es]
              exact (upd_ne (fun z => by rw [← z] at hn'; rw [hn'] at np2; cases np2)).trans upd_same
        · rintro σ H7 ⟨⟨b, c, d, rfl⟩, k7, hs7, hpr7, hpt7, kvs, hn7, _, hw7⟩
          rw [List.length_map, List.take_length] at hw7
          walk_at "rt"
          refine ⟨Ps, sq_of (k7 _ _ hp), fun a na => ⟨by rw [PySem.sizeLine_eq]; decide, fun r nr => ?_⟩⟩
          have ka : Keeps H7 (L2.upd H7 a (.lst ((sortS Ps).map V.str))) := Keeps.new na
          have kr := Keeps.new (x := .tup [.ref a, .ref pr, .ref nt]) nr
          have kar := ka.trans kr
          exact q r _ (k7.trans kar) (k7.free (ka.free nr)) ⟨a, pr, ⟨_, upd_same, NearAt.keep ⟨kvs, hn7, fun x hx => by
            obtain ⟨l, h1, _, h3⟩ := hw7.at' x hx
            rw [if_pos hx] at h3
            exact ⟨l, h1, h3⟩, hw7.key⟩ kar⟩, kr _ _ upd_same, ys, kar _ _ hpr7, hpt7.keeps kar⟩
end
end K01
namespace K01
open PySem PySem.Spec PyProof.Rows L2 TL HotExc Tw WX
local macro_rules | `(tactic| walk_at "rd") => `(tactic| simp only [start1, wipe, isR, isBool, isInt, isStr, isLst, isTup, tAsg, gName, gSub, tVar, tC, tOp, tUn, tTest, tIfS, tRet, tRetN, tDrop, tB, tAnd, tOr, tNot, tAndV, tOrV, tNotV, tIf, tCB, tCons, tNil, tNext, tCall, tBM, tTup, tLst, rU, rInW, rNinW, Int.reduceNeg, tG, tG2, sP, tFldC, sFldC, tProp, tMeth, tMake, rOwnC, rLenO, rIsC, rNoT, tAddT, tSAddK, rSAddK, rSInK, rSet0K, rSet0T, rMinS, rMaxS, rSortedQ, rSortedT, rEqD, rNeD, rIxD, dcL_eq, dcZ_eq, lcO_eq, forE_eq, forT_eq, lcS_eq, ItX.rIterN, iOwn, List.append_nil, tDisp, tPairs, tCallS, tCallSD, tCallT, StX.tStar, tCallK, tCallKS, rTupOf, tDrop, rI0, rI, rEq, rNe, scal, forR_eq, forR2_eq, forS_eq, forL_eq, lcT_eq, lcRT_eq, lcS_eq, rLenX, rLenS, rListOf, tRevL, rMulS, rRepL, rCatL, rSumN, rMaxN, tBM0, rPop, tAug, ipI,  tPart, tNoPart, CwR.tReplC, rAllK, rInSg, rNinSg, sgn_inj, rAddS, rInSt, tChain, tM1, tM0, rSplitN, rJoinN, exists_eq, rIntI, rIntB, rIntS, rStrI, rAbs, rOrd, rMin, rMax, rIxL, rIxX, rSetL, rAppend, rIxS, rSlS, rSlL, tSl, List.map_cons, List.map_nil, List.replicate_succ, List.replicate_zero, List.length_cons, List.length_nil, Nat.reduceSub, Nat.reduceAdd, Nat.zero_add, Nat.sub_self, List.getElem?_cons_zero, List.getElem?_cons_succ, List.set_cons_zero, List.set_cons_succ, List.append_nil, List.nil_append, List.cons_append, Option.some.injEq, not_true_eq_false, reduceCtorEq, exists_eq_left', exists_eq_left, exists_eq', exists_and_left, exists_and_right, V.int.injEq, V.str.injEq, V.bl.injEq, V.ref.injEq, List.cons.injEq, and_true, true_and, and_assoc, decide_eq_true_eq, Bool.not_eq_true', decide_eq_false_iff_not, ite_true, ite_false, if_true, if_false, Bool.not_true, Bool.not_false, Bool.false_eq_true, eq_self_iff_true, reduceIte, ne_eq, Int.reduceEq, not_false_eq_true])
local macro_rules | `(tactic| walk_at "rt") => `(tactic| try walk_at "rd")
local macro_rules | `(tactic| walk_at "st") => `(tactic| (walk_at "rt"; refine r_seq ?_; walk_at "rt"))
local macro_rules | `(tactic| walk_at "hp") => `(tactic| first | assumption | exact upd_same | (rw [upd_ne (by assumption)]; walk_at "hp"))
local macro_rules | `(tactic| walk_at "ex1") => `(tactic| ((with_reducible refine Exists.intro ?w (And.intro ?hx ?_)); (case hx => first | exact sq_of (by walk_at "hp") | exact .inl (sq_of (by walk_at "hp")) | exact rfl | (show _ = some (HO.lst _); walk_at "hp"))))
local macro_rules | `(tactic| walk_at "ex") => `(tactic| repeat (first | walk_at "ex1" | walk_at "rd"))
abbrev s_websized : Stmt := topS 60
theorem sc_websized : FnScope ["store", "many", "bound", "taken", "names", "ties", "pair"] ["store", "many", "bound", "taken"] (defScope s_websized) := ⟨rfl, rfl, rfl, by decide +kernel, rfl, by decide +kernel, by decide +kernel⟩
abbrev s_webargs : Stmt := topS 61
theorem sc_webargs : FnScope ["store", "web", "ties", "pair"] ["store", "web"] (defScope s_webargs) := ⟨rfl, rfl, rfl, by decide +kernel, rfl, by decide +kernel, by decide +kernel⟩
theorem StoreAt.nS {H : Hp} {a c p : Addr} {ws : List Str} (S : StoreAt H a c) (h : H p = some (.lst (ws.map V.str))) : p ≠ a := fun z => by
  obtain ⟨⟨cells, pos, val, turn, seed, e, _⟩, _⟩ := S
  rw [z, e] at h
  have h := HO.lst.inj (Option.some.inj h)
  cases ws with
  | nil => cases h
  | cons x ws =>
    rw [List.map_cons] at h
    have := (List.cons.inj h).1
    cases this
theorem StoreAt.nP {H : Hp} {a c t : Addr} {E : List (Str × Str)} {vs : List V} (S : StoreAt H a c) (h : H t = some (.lst vs)) (g : PT H E vs) : t ≠ a := fun z => by
  obtain ⟨⟨cells, pos, val, turn, seed, e, _⟩, _⟩ := S
  rw [z, e] at h
  have h := HO.lst.inj (Option.some.inj h)
  subst h
  have h1 : 1 < E.length := by rw [← g.1]; simp
  obtain ⟨t, e, _⟩ := g.2 1 _ _ (List.getElem?_eq_getElem h1) rfl
  cases e
theorem StoreAt.nT {H : Hp} {a c t : Addr} {xs : List V} (S : StoreAt H a c) (h : H t = some (.tup xs)) : t ≠ a := fun z => by
  obtain ⟨⟨cells, pos, val, turn, seed, e, _⟩, _⟩ := S
  rw [z, e] at h
  cases h
theorem _root_.WX.PT.but {H H' : Hp} {a c : Addr} {E : List (Str × Str)} {vs : List V} (h : PT H E vs) (S : StoreAt H a c) (b : But a H H') : PT H' E vs := h.keep fun t xs e => b _ _ (S.nT e) e
theorem Args.but {H H' : Hp} {a c p t : Addr} {Ps : List Str} {E : List (Str × Str)} (h : Args H p t Ps E) (S : StoreAt H a c) (b : But a H H') : Args H' p t Ps E := by
  obtain ⟨h1, vs, h2, h3⟩ := h
  exact ⟨b _ _ (S.nS h1) h1, vs, b _ _ (S.nP h2 h3) h2, h3.but S b⟩
theorem StoreAt.nK {H : Hp} {a c p : Addr} {kvs : List (Key × V)} (S : StoreAt H a c) (h : H p = some (.dK kvs)) : p ≠ a := fun z => by
  obtain ⟨⟨cells, pos, val, turn, seed, e, _⟩, _⟩ := S
  rw [z, e] at h
  cases h
theorem LW.but {H H' : Hp} {a c r : Addr} {Ps : List Str} {T : List (Str × Str)} (h : LW H r Ps T) (S : StoreAt H a c) (b : But a H H') : LW H' r Ps T := by
  obtain ⟨x, y, ⟨v, h1, h3⟩, h2⟩ := h
  exact ⟨x, y, ⟨v, b _ _ (S.nT h1) h1, h3.but b (fun p xs h => S.nS h) (fun p kvs h => S.nK h)⟩, h2.but S b⟩
theorem _root_.WX.PT.cons {H : Hp} {ps : List (Str × Str)} {v : V} {vs : List V} (h : PT H ps (v :: vs)) : ∃ p qs, ps = p :: qs ∧ (∃ t, v = .ref t ∧ H t = some (.tup [.str p.1, .str p.2])) ∧ PT H qs vs := by
  cases ps with
  | nil => exact absurd h.1 (by simp)
  | cons p qs => exact ⟨p, qs, rfl, h.2 0 p v rfl rfl, by have := h.1; simp at this; exact this, fun i x y e1 e2 => h.2 (i + 1) x y e1 e2⟩
theorem _root_.WX.PT.mk {H : Hp} {p : Str × Str} {ps : List (Str × Str)} {v : V} {vs : List V} (h1 : ∃ t, v = .ref t ∧ H t = some (.tup [.str p.1, .str p.2])) (h : PT H ps vs) : PT H (p :: ps) (v :: vs) := by
  refine ⟨by rw [List.length_cons, List.length_cons, h.1], fun i x y e1 e2 => ?_⟩
  cases i with
  | zero => cases e1; cases e2; exact h1
  | succ i => exact h.2 i x y e1 e2
theorem _root_.WX.PT.perm' {H : Hp} {vs ys : List V} (h : vs.Perm ys) : ∀ {ps : List (Str × Str)}, PT H ps vs → ∃ qs, qs.Perm ps ∧ PT H qs ys := by
  induction h with
  | nil => exact fun {ps} h => ⟨ps, List.Perm.refl _, h⟩
  | cons x _ ih =>
    intro ps h
    obtain ⟨p, qs, rfl, h1, h2⟩ := h.cons
    obtain ⟨rs, h3, h4⟩ := ih h2
    exact ⟨p :: rs, h3.cons p, PT.mk h1 h4⟩
  | swap x y l =>
    intro ps h
    obtain ⟨p, qs, rfl, h1, h2⟩ := h.cons
    obtain ⟨p2, qs2, rfl, h3, h4⟩ := h2.cons
    exact ⟨p2 :: p :: qs2, List.Perm.swap _ _ _, PT.mk h3 (PT.mk h1 h4)⟩
  | trans _ _ ih1 ih2 =>
    intro ps h
    obtain ⟨q1, h1, h2⟩ := ih1 h
    obtain ⟨q2, h3, h4⟩ := ih2 h2
    exact ⟨q2, h3.trans h1, h4⟩
theorem _root_.WX.PT.perm {H : Hp} {vs ys : List V} {ps : List (Str × Str)} (h : PT H ps vs) (p : ys.Perm vs) : ∃ qs, qs.Perm ps ∧ PT H qs ys := PT.perm' p.symm h
theorem _root_.WX.PT.sub {H : Hp} {vs ys : List V} (h : ys.Sublist vs) : ∀ {ps : List (Str × Str)}, PT H ps vs → ∃ qs, qs.Sublist ps ∧ PT H qs ys := by
  induction h with
  | slnil => exact fun {ps} h => ⟨ps, List.Sublist.refl _, h⟩
  | cons x _ ih =>
    intro ps h
    obtain ⟨p, qs, rfl, h1, h2⟩ := h.cons
    obtain ⟨rs, h3, h4⟩ := ih h2
    exact ⟨rs, h3.cons p, h4⟩
  | cons_cons x _ ih =>
    intro ps h
    obtain ⟨p, qs, rfl, h1, h2⟩ := h.cons
    obtain ⟨rs, h3, h4⟩ := ih h2
    exact ⟨p :: rs, h3.cons₂ p, PT.mk h1 h4⟩
theorem ordP_ord (e : Str × Str) : ordP (ordP e) = ordP e := by
  unfold ordP
  by_cases h : e.1.cps.toList < e.2.cps.toList
  · rw [if_pos h, if_pos h]
  · rw [if_neg h]
    by_cases g : e.2.cps.toList < e.1.cps.toList
    · rw [if_pos g]
    · rw [if_neg g]
      have : e.1 = e.2 := str_ext (List.le_antisymm (List.not_lt.mp g) (List.not_lt.mp h))
      rw [this]
theorem ordP_two (e : Str × Str) : ordP e = e ∨ ordP e = (e.2, e.1) := by
  unfold ordP
  split
  · exact .inl rfl
  · exact .inr rfl
theorem ordP_sw (e : Str × Str) : ordP (e.2, e.1) = ordP e := by
  unfold ordP
  by_cases h : e.1.cps.toList < e.2.cps.toList
  · rw [if_pos h, if_neg (fun g => absurd (List.lt_trans h g) (List.lt_irrefl _))]
  · rw [if_neg h]
    by_cases g : e.2.cps.toList < e.1.cps.toList
    · rw [if_pos g]
    · rw [if_neg g]
      have : e.1 = e.2 := str_ext (List.le_antisymm (List.not_lt.mp g) (List.not_lt.mp h))
      rw [this]
theorem nd_map {α β : Type} {f : α → β} : ∀ {l : List α}, l.Nodup → (∀ x ∈ l, ∀ y ∈ l, f x = f y → x = y) → (l.map f).Nodup
  | [], _, _ => List.nodup_nil
  | x :: l, nd, h => by
    obtain ⟨n1, n2⟩ := List.nodup_cons.mp nd
    rw [List.map_cons, List.nodup_cons]
    refine ⟨fun m => ?_, nd_map n2 fun a ha b hb => h a (List.mem_cons_of_mem _ ha) b (List.mem_cons_of_mem _ hb)⟩
    obtain ⟨y, hy, e⟩ := List.mem_map.mp m
    exact n1 (h y (List.mem_cons_of_mem _ hy) x List.mem_cons_self e ▸ hy)
/-- a web as the law makes it -/
structure Wok (Ps : List Str) (T : List (Str × Str)) : Prop where
  fit : Fit Ps T
  ps : sortS Ps = Ps
  to : T.map ordP = T
  ts : sortP T = T
theorem Wok.of {Ps : List Str} {E : List (Str × Str)} (F : Fit Ps E) : Wok (sortS Ps) (sortP (E.map ordP)) := by
  have ok := F.ok
  have ho : ∀ e ∈ sortP (E.map ordP), ∃ e0 ∈ E, e = ordP e0 := fun e he => by
    obtain ⟨e0, h0, rfl⟩ := List.mem_map.mp ((sortP_pm _).mem_iff.mp he)
    exact ⟨e0, h0, rfl⟩
  have to : (sortP (E.map ordP)).map ordP = sortP (E.map ordP) := by
    refine (List.map_congr_left fun e he => ?_).trans (List.map_id _)
    obtain ⟨e0, _, rfl⟩ := ho e he
    exact ordP_ord e0
  refine ⟨⟨ok.ne, ok.p20, ok.nd, ok.nam, ok.t60, ok.inP, fun e he => ?_, ?_⟩, sortS_of (List.Perm.refl _), to, sortP_of (List.Perm.refl _)⟩
  · obtain ⟨e0, h0, rfl⟩ := ho e he
    have := F.dif e0 h0
    rcases ordP_two e0 with h | h <;> rw [h]
    · exact this
    · exact this.symm
  · rw [to]
    exact (sortP_pm _).nodup_iff.mpr F.end'
theorem Wok.perm {Ps Ps' : List Str} {T E : List (Str × Str)} (W : Wok Ps T) (p : Ps'.Perm Ps) (q : (E.map ordP).Perm T) : Fit Ps' E ∧ sortS Ps' = Ps ∧ sortP (E.map ordP) = T := by
  have F := W.fit
  have hm : ∀ e ∈ E, ordP e ∈ T := fun e he => q.mem_iff.mp (List.mem_map.mpr ⟨e, he, rfl⟩)
  refine ⟨⟨fun z => F.ne ?_, by rw [p.length_eq]; exact F.p20, p.nodup_iff.mpr F.pnd, fun x hx => F.nam x (p.mem_iff.mp hx), ?_, fun e he => ?_, fun e he => ?_, ?_⟩, (sortS_eq p).trans W.ps, (sortP_eq q).trans W.ts⟩
  · rw [z] at p
    exact List.length_eq_zero_iff.mp p.length_eq.symm
  · have := q.length_eq
    rw [List.length_map] at this
    rw [this]
    exact F.e60
  · have := F.inP _ (hm e he)
    rcases ordP_two e with h | h <;> rw [h] at this
    · exact ⟨p.mem_iff.mpr this.1, p.mem_iff.mpr this.2⟩
    · exact ⟨p.mem_iff.mpr this.2, p.mem_iff.mpr this.1⟩
  · have := F.dif _ (hm e he)
    rcases ordP_two e with h | h <;> rw [h] at this
    · exact this
    · exact this.symm
  · refine q.nodup_iff.mpr ?_
    have := F.end'
    rw [W.to] at this
    exact this
theorem Fit.sub {Ps : List Str} {E E' : List (Str × Str)} (F : Fit Ps E) (h : E'.Sublist E) : Fit Ps E' :=
  ⟨F.ne, F.p20, F.pnd, F.nam, Nat.le_trans h.length_le F.e60, fun e he => F.inP e (h.mem he), fun e he => F.dif e (h.mem he), (h.map _).nodup F.end'⟩
/-- the name of a number -/
def nmAt (ws : List Str) (i : Int) : Str := ws[i.toNat]?.getD Str.empty
def nmP (ws : List Str) (p : Int × Int) : Str × Str := (nmAt ws p.1, nmAt ws p.2)
theorem nmAt_get {ws : List Str} {i : Int} (h1 : i < ws.length) (h0 : 0 ≤ i) : ws[i.toNat]? = some (nmAt ws i) := by
  unfold nmAt
  rw [List.getElem?_eq_getElem (by omega)]
  rfl
theorem nmAt_inj {ws : List Str} (nd : ws.Nodup) {i j : Int} (h0 : 0 ≤ i) (h1 : i < ws.length) (g0 : 0 ≤ j) (g1 : j < ws.length) (e : nmAt ws i = nmAt ws j) : i = j := by
  have := (List.getElem?_inj (i := i.toNat) (j := j.toNat) (by omega) nd).mp (by rw [nmAt_get h1 h0, nmAt_get g1 g0, e])
  omega
theorem fit_of {ws : List Str} {ps : List (Int × Int)} (hn : ∀ z ∈ ws, Nam z) (nd : ws.Nodup) (h1 : 1 ≤ ws.length) (h20 : ws.length ≤ 20) (hp : PrsL ws.length ps) (h60 : ps.length ≤ 60) : Fit ws (ps.map (nmP ws)) := by
  have mem : ∀ i : Int, 0 ≤ i → i < ws.length → nmAt ws i ∈ ws := fun i h0 h1 => List.mem_of_getElem? (nmAt_get h1 h0)
  refine ⟨fun z => by rw [z] at h1; exact absurd h1 (by decide), h20, nd, hn, by rw [List.length_map]; exact h60, fun e he => ?_, fun e he => ?_, ?_⟩
  · obtain ⟨p, h, rfl⟩ := List.mem_map.mp he
    obtain ⟨a, b, c⟩ := hp.2 p h
    exact ⟨mem _ (by omega) (by omega), mem _ (by omega) (by omega)⟩
  · obtain ⟨p, h, rfl⟩ := List.mem_map.mp he
    obtain ⟨a, b, c⟩ := hp.2 p h
    intro z
    have := nmAt_inj nd (by omega) (by omega) (by omega) (by omega) z
    omega
  · rw [List.map_map]
    refine nd_map hp.1 fun p h q g e => ?_
    obtain ⟨a, b, c⟩ := hp.2 p h
    obtain ⟨a', b', c'⟩ := hp.2 q g
    have inj := fun i j h0 h1 g0 g1 e => nmAt_inj nd (i := i) (j := j) h0 h1 g0 g1 e
    have key : (nmAt ws p.1 = nmAt ws q.1 ∧ nmAt ws p.2 = nmAt ws q.2) ∨ (nmAt ws p.1 = nmAt ws q.2 ∧ nmAt ws p.2 = nmAt ws q.1) := by
      have e : ordP (nmP ws p) = ordP (nmP ws q) := e
      rcases ordP_two (nmP ws p) with h | h <;> rcases ordP_two (nmP ws q) with g | g <;> rw [h, g] at e <;> have e1 := congrArg Prod.fst e <;> have e2 := congrArg Prod.snd e
      · exact .inl ⟨e1, e2⟩
      · exact .inr ⟨e1, e2⟩
      · exact .inr ⟨e2, e1⟩
      · exact .inl ⟨e2, e1⟩
    rcases key with ⟨e1, e2⟩ | ⟨e1, e2⟩
    · exact Prod.ext (inj _ _ (by omega) (by omega) (by omega) (by omega) e1) (inj _ _ (by omega) (by omega) (by omega) (by omega) e2)
    · have := inj _ _ (by omega) (by omega) (by omega) (by omega) e1
      have := inj _ _ (by omega) (by omega) (by omega) (by omega) e2
      omega
def spWebSized : Sp := fun vs H Q _ => ∃ (a c p : Addr) (many : Nat) (bound : Int) (ts : List Str), vs = [.ref a, .int many, .int bound, .ref p] ∧ StoreAt H a c ∧ H p = some (.lst (ts.map V.str)) ∧ 1 ≤ many ∧ many ≤ 20 ∧ 0 ≤ bound ∧ bound ≤ 60 ∧ ts.length ≤ 30 ∧
  ∀ r Ps T H', StoreAt H' a c → But a H H' → H r = none → LW H' r Ps T → Wok Ps T → Ps.length = many → NamesL ts Ps → Q (.ref r) H'
def spWebArgs : Sp := fun vs H Q _ => ∃ (a c r : Addr) (Ps : List Str) (T : List (Str × Str)), vs = [.ref a, .ref r] ∧ StoreAt H a c ∧ LW H r Ps T ∧ Ps.length ≤ 20 ∧ T.length ≤ 60 ∧
  ∀ q p t Ps' E H', StoreAt H' a c → But a H H' → H q = none → H' q = some (.tup [.ref p, .ref t]) → Args H' p t Ps' E → Ps'.Perm Ps → (E.map ordP).Perm (T.map ordP) → Q (.ref q) H'
section
variable {P : Program} {w : World} {K : PySem.W.Frag} {mg : Str → Option Value} {base : Heap}
theorem ok_websized {f f_names f_shape f_webof : Addr} {fd fd_names fd_shape fd_webof : FuncData} (B : Bi mg) (D : Dn K mg "_law_web_sized" s_websized ["store", "many", "bound", "taken"] f fd) (D_names : Dn K mg "_law_names" s_names ["store", "many", "taken"] f_names fd_names) (D_shape : Dn K mg "_law_shape" s_shape ["store", "many", "bound"] f_shape fd_shape) (D_webof : Dn K mg "_law_web_of" s_webof ["places", "ties"] f_webof fd_webof)
    (G_names : FnOk P w K mg base CX0 6 f_names fd_names ["store", "many", "taken"] spNames) (G_shape : FnOk P w K mg base CX0 4 f_shape fd_shape ["store", "many", "bound"] spShape) (G_webof : FnOk P w K mg base CX0 2 f_webof fd_webof ["places", "ties"] spWebOf) : FnOk P w K mg base CX0 7 f fd ["store", "many", "bound", "taken"] spWebSized := by
  refine D.F.ok sc_websized (fun vs H Q E h => ?_) (fun cdv A outer s H vs Q E hr h => ?_)
  · obtain ⟨a, c, p, many, bound, ts, rfl, _⟩ := h
    rfl
  · obtain ⟨a, c, p, many, bound, ts, rfl, S0, hp, hm1, hm2, hb1, hb2, hts, q⟩ := h
    refine ⟨_, (pss_cons (ps_set (i := 4) sc_websized.nd rfl (.inr rfl) (pe_call G_names (hr.mono (by omega)) (by rfl) D_names.g D_names.F.kp D_names.b .nil pass0 (pa_cons (pv 0) (pa_cons (pv 1) (pa_cons (pv 3) pa_nil)))))
      (pss_cons (ps_setLc (i := 5) (own := [("pair", 6)]) (g := gName 6) (tt := tYes) (by rfl) sc_websized.nd rfl rfl (sw_true rfl rfl rfl (by decide +kernel)) (pi_listK (K := K) (pe_call G_shape (hr.mono (by omega)) (by rfl) D_shape.g D_shape.F.kp D_shape.b .nil pass0 (pa_cons (pv 0) (pa_cons (pv 1) (pa_cons (pv 2) pa_nil))))) (blkOk_by (own := [("pair", 6)]) (N := ["store", "many", "bound", "taken", "names", "ties", "pair"]) (sc := defScope s_websized) (by decide +kernel)) (fun _ _ _ _ _ => pg_name (i := 6) sc_websized.nd rfl (Or.inl rfl)) (fun _ _ _ _ _ => pts_nil) (fun _ _ _ _ _ => (pe_tup (pa_cons (pe_ix (ix_listK (K := K)) (pv 4) (pe_ix (ix_sxK (K := K)) (pv 6) pe_int (fun _ _ => rfl)) (fun _ _ => rfl)) (pa_cons (pe_ix (ix_listK (K := K)) (pv 4) (pe_ix (ix_sxK (K := K)) (pv 6) pe_int (fun _ _ => rfl)) (fun _ _ => rfl)) pa_nil)))))
      (pss_one (ps_ret (pe_call G_webof (hr.mono (by omega)) (by rfl) D_webof.g D_webof.F.kp D_webof.b .nil pass0 (pa_cons (pv 4) (pa_cons (pv 5) pa_nil))))))), ?_⟩
    walk_at "st"
    refine ⟨a, c, p, many, ts, rfl, S0, hp, S0.nS hp, by omega, hts, fun nl ws H1 S1 b1 nnl hnl hwl hws => ?_⟩
    walk_at "st"
    refine ⟨a, c, many, bound, rfl, S1, by omega, by omega, hb1, by omega, fun sq ps vs H2 S2 b2 nsq hsq hat prs hpl => ⟨sq, rfl, ⟨_, sq_of hsq⟩, fun Dd nD => ?_⟩⟩
    have hnl2 := b2 _ _ (S1.nS hnl) hnl
    refine r_lcTL vs (fun i H' => Keeps H2 H' ∧ ∃ us, H' Dd = some (.lst us) ∧ PT H' ((ps.take i).map (nmP ws)) us) (fun _ => rfl) ⟨Keeps.new nD, [], upd_same, PT.nil⟩ (fun i H' _ h => sq_of (h.1 _ _ hsq)) ?_ ?_
    · rintro i v H' hx ⟨k, us, hD, hus⟩ N kN
      have hi : i < ps.length := by have := lt_of_get hx; have := hat.1; omega
      have he := List.getElem?_eq_getElem hi
      obtain ⟨p1, p2, p3⟩ := prs.2 _ (List.getElem_mem hi)
      generalize ps[i] = e0 at he p1 p2 p3
      obtain ⟨u, rfl, _, hu⟩ := hat.2 i _ v he hx
      have hu' := k _ _ hu
      have tt : SqL K H' u [.int e0.1, .int e0.2] ∨ SqT K H' u [.int e0.1, .int e0.2] := .inr (tup_at hu')
      have g1 := nmAt_get (ws := ws) (i := e0.1) (by omega) (by omega)
      have g2 := nmAt_get (ws := ws) (i := e0.2) (by omega) (by omega)
      have hl := sq_of (K := K) (k _ _ hnl2)
      have ix : ∀ (j : Int) z, 0 ≤ j → ws[j.toNat]? = some z → atI (ws.map V.str) j = some (.str z) := fun j z h0 h => by
        have e : j = (j.toNat : Int) := by omega
        rw [e]
        exact atI_nat (by rw [List.getElem?_map, h]; rfl)
      walk_at "rt"
      refine ⟨_, tt, _, rfl, _, _, rfl, hl, _, ix _ _ (by omega) g1, _, tt, _, rfl, _, _, rfl, hl, _, ix _ _ (by omega) g2, by rw [PySem.sizeLine_eq]; decide, fun r nr => ?_⟩
      have rD : Dd ≠ r := ne_of_none hD nr
      refine kN _ _ us ((upd_ne rD).trans hD) (size_ok (by rw [hus.1, List.length_map, List.length_take]; omega)) ⟨(k.put (k.free nr)).put nD, _, upd_same, ?_⟩
      rw [take_snoc he, List.map_append]
      refine PT.snoc ((hus.keeps (Keeps.new nr)).upd ((upd_ne rD).trans hD) (fun xs h => by cases h)) ?_
      rw [upd_ne rD.symm, upd_same]
      rfl
    · rintro H3 ⟨k3, us, hD, hus⟩
      have el : ps.take vs.length = ps := List.take_of_length_le (by rw [hat.1]; exact Nat.le_refl _)
      rw [el] at hus
      have F := fit_of (fun z hz => (hws.1 z hz).1) hws.2 (by omega) (by omega) (by rw [hwl]; exact prs) (ps := ps) (by omega)
      refine ⟨nl, Dd, ws, ps.map (nmP ws), rfl, ⟨k3 _ _ hnl2, us, hD, hus⟩, F.p20, F.e60, F.inP, fun r H4 k4 nr hlw => ?_⟩
      have b4 := ((b1.trans b2).trans (Keeps.but (a := a) k3)).trans (Keeps.but k4)
      have S3 := Keeps.store S2 k3
      refine q r _ _ H4 (Keeps.store S3 k4) b4 ?_ hlw (Wok.of F) (by rw [(sortS_pm ws).length_eq]; exact hwl) ⟨fun z hz => hws.1 z ((sortS_pm ws).mem_iff.mp hz), (sortS_pm ws).nodup_iff.mpr hws.2⟩
      cases e : H r with
      | none => rfl
      | some o => have := ((b1.trans b2).trans (Keeps.but (a := a) k3)) r o (S3.ne1 nr) e; rw [nr] at this; cases this
theorem ok_webargs {f f_shuffled f_chance : Addr} {fd fd_shuffled fd_chance : FuncData} (B : Bi mg) (D : Dn K mg "_law_web_args" s_webargs ["store", "web"] f fd) (D_chance : Dn K mg "_law_chance" s_chance ["store", "many"] f_chance fd_chance) (D_shuffled : Dn K mg "_law_shuffled" s_shuffled ["store", "row"] f_shuffled fd_shuffled)
    (G_chance : FnOk P w K mg base CX0 3 f_chance fd_chance ["store", "many"] spChance) (G_shuffled : FnOk P w K mg base CX0 3 f_shuffled fd_shuffled ["store", "row"] (spShuf K)) : FnOk P w K mg base CX0 4 f fd ["store", "web"] spWebArgs := by
  refine D.F.ok sc_webargs (fun vs H Q E h => ?_) (fun cdv A outer s H vs Q E hr h => ?_)
  · obtain ⟨a, c, r, Ps, T, rfl, _⟩ := h
    rfl
  · obtain ⟨a, c, r, Ps, T, rfl, S0, ⟨pa, ta, ⟨nv, hr0, _⟩, hA⟩, h20, h60, q⟩ := h
    refine ⟨_, (pss_cons (ps_set (i := 2) sc_webargs.nd rfl (.inl rfl) (pe_lst pa_nil))
      (pss_cons (ps_for PassesOwn.never rfl (pi_listK (K := K) (pe_call G_shuffled (hr.mono (by omega)) (by rfl) D_shuffled.g D_shuffled.F.kp D_shuffled.b .nil pass0 (pa_cons (pv 0) (pa_cons (pe_ix (ix_sxK (K := K)) (pv 1) pe_int (fun _ _ => rfl)) pa_nil)))) (pg_name (i := 3) sc_webargs.nd rfl (.inl rfl)) (pss_one (ps_if (pt_val (pe_call G_chance (hr.mono (by omega)) (by rfl) D_chance.g D_chance.F.kp D_chance.b .nil pass0 (pa_cons (pv 0) (pa_cons pe_int pa_nil)))) (pss_one (ps_expr (pe_bm PySem.F.plainAttrs_list PySem.F.slot_list_append PySem.F.type_list_append mt_append (pv 2) (pa_cons (pe_tup (pa_cons (pe_ix (ix_sxK (K := K)) (pv 3) pe_int (fun _ _ => rfl)) (pa_cons (pe_ix (ix_sxK (K := K)) (pv 3) pe_int (fun _ _ => rfl)) pa_nil))) pa_nil)))) (pss_one (ps_expr (pe_bm PySem.F.plainAttrs_list PySem.F.slot_list_append PySem.F.type_list_append mt_append (pv 2) (pa_cons (pv 3) pa_nil)))))))
      (pss_one (ps_ret (pe_tup (pa_cons (pe_call G_shuffled (hr.mono (by omega)) (by rfl) D_shuffled.g D_shuffled.F.kp D_shuffled.b .nil pass0 (pa_cons (pv 0) (pa_cons (pe_ix (ix_sxK (K := K)) (pv 1) pe_int (fun _ _ => rfl)) pa_nil))) (pa_cons (pv 2) pa_nil))))))), ?_⟩
    walk_at "st"
    refine ⟨Nat.zero_le _, fun nt nnt => ?_⟩
    have k0 : Keeps H (L2.upd H nt (.lst [])) := Keeps.new nnt
    have hn0 : L2.upd H nt (.lst []) nt = some (.lst []) := upd_same
    have S1 := S0.new (o := .lst []) nnt
    have nta := S0.ne1 nnt
    have ntc := S0.ne2 nnt
    generalize L2.upd H nt (.lst []) = H1 at *
    obtain ⟨hpa, vs, hta, hT⟩ := hA
    have web : ∀ H', But a H H' → SqL K H' r [.ref pa, .ref ta, .ref nv] ∨ SqT K H' r [.ref pa, .ref ta, .ref nv] := fun H' b => .inr (tup_at (b _ _ (S0.nT hr0) hr0))
    walk_at "st"
    refine ⟨_, web _ (Keeps.but k0), _, rfl, a, c, ta, vs, rfl, S1, k0 _ _ hta, S0.nP hta hT, by rw [hT.1]; omega, fun sl ys H2 S2 b2 nsl hsl hpm => ⟨sl, rfl, ⟨_, sq_of hsl⟩, ?_⟩⟩
    have b02 := (Keeps.but k0).trans b2
    obtain ⟨E0, hE0, hP0⟩ := (hT.but S0 b02).perm hpm
    have hn2 := b2 _ _ nta hn0
    have sln : sl ≠ nt := fun z => by rw [z, hn0] at nsl; cases nsl
    have yl : ys.length = T.length := by rw [hpm.length_eq, hT.1]
    refine r_list ys (fun i σ H' => (∃ x, σ = [some (.ref a), some (.ref r), some (.ref nt), x]) ∧ StoreAt H' a c ∧ But a H H' ∧ H' sl = some (.lst ys) ∧ PT H' E0 ys ∧ ∃ us Es, H' nt = some (.lst us) ∧ PT H' Es us ∧ Es.map ordP = (E0.take i).map ordP) ⟨⟨_, rfl⟩, S2, b02, hsl, hP0, [], [], hn2, PT.nil, rfl⟩ (fun i σ H' _ h => sq_of h.2.2.2.1) ?_ ?_
    · rintro i v σ H' hx ⟨⟨x, rfl⟩, S3, b3, hsl3, hP3, us, Es, hn3, hus, hes⟩ N kk
      have hi : i < E0.length := by have := lt_of_get hx; have := hP3.1; omega
      have he := List.getElem?_eq_getElem hi
      generalize E0[i] = e0 at he
      obtain ⟨u, rfl, hu⟩ := hP3.2 i _ v he hx
      have usl : us.length ≤ 60 := by
        have e1 := congrArg List.length hes
        rw [List.length_map, List.length_map, List.length_take] at e1
        have e2 := hE0.length_eq
        rw [hus.1]
        omega
      walk_at "rt"
      refine ⟨a, c, _, rfl, S3, by decide, fun v H4 S4 b4 ⟨bb, e⟩ => ⟨bb, e, ?_⟩⟩
      have hn4 := b4 _ _ nta hn3
      have hu4 := b4 _ _ (S3.nT hu) hu
      have hP4 := hP3.but S3 b4
      have hus4 := hus.but S3 b4
      have hsl4 := b4 _ _ (S3.nP hsl3 hP3) hsl3
      have tt : ∀ H'', H'' u = some (.tup [.str e0.1, .str e0.2]) → SqL K H'' u [.str e0.1, .str e0.2] ∨ SqT K H'' u [.str e0.1, .str e0.2] := fun H'' h => .inr (tup_at h)
      have bn : ∀ o, H4 nt = some o → ∀ o', But a H (L2.upd H4 nt o') := fun o h o' b x hb e => by
        rw [upd_ne (fun z => by rw [z, nnt] at e; cases e)]
        exact (b3.trans b4) b x hb e
      cases bb with
      | true =>
        simp only [if_true]
        walk_at "rt"
        refine ⟨.inl ⟨rfl, _, sq_of hn4⟩, _, tt _ hu4, _, rfl, _, tt _ hu4, _, rfl, by rw [PySem.sizeLine_eq]; decide, fun t2 nt2 => ?_⟩
        have tn : nt ≠ t2 := ne_of_none hn4 nt2
        have kn : Keeps H4 (L2.upd H4 t2 (.tup [.str e0.2, .str e0.1])) := Keeps.new nt2
        refine ⟨us, (upd_ne tn).trans hn4, size_ok (by omega), kk _ _ ⟨⟨_, rfl⟩, (S4.new nt2).put nta ntc, fun b x hb e => ?_, ?_, (hP4.keeps kn).upd (kn _ _ hn4) (fun xs h => by cases h), us ++ [.ref t2], Es ++ [(e0.2, e0.1)], upd_same, ?_, ?_⟩⟩
        · rw [upd_ne (fun z => by rw [z, nnt] at e; cases e)]
          exact kn _ _ ((b3.trans b4) b x hb e)
        · exact (upd_ne sln).trans (kn _ _ hsl4)
        · exact PT.snoc ((hus4.keeps kn).upd (kn _ _ hn4) (fun xs h => by cases h)) ((upd_ne tn.symm).trans upd_same)
        · rw [take_snoc he, List.map_append, List.map_append, hes]
          exact congrArg (_ ++ [·]) (ordP_sw e0)
      | false =>
        simp only [Bool.false_eq_true, if_false]
        walk_at "rt"
        refine ⟨.inl ⟨rfl, _, sq_of hn4⟩, us, hn4, size_ok (by omega), kk _ _ ⟨⟨_, rfl⟩, S4.put nta ntc, bn _ hn4 _, (upd_ne sln).trans hsl4, hP4.upd hn4 (fun xs h => by cases h), us ++ [.ref u], Es ++ [e0], upd_same, ?_, ?_⟩⟩
        · exact PT.snoc (hus4.upd hn4 (fun xs h => by cases h)) ((upd_ne (fun z => by rw [z, hn4] at hu4; cases hu4)).trans hu4)
        · rw [take_snoc he, List.map_append, List.map_append, hes]
    · rintro σ H3 ⟨⟨x, rfl⟩, S3, b3, hsl3, hP3, us, Es, hn3, hus, hes⟩
      rw [List.take_of_length_le (by rw [hP3.1]; exact Nat.le_refl _)] at hes
      walk_at "rt"
      refine ⟨_, web _ b3, _, rfl, a, c, pa, _, rfl, S3, b3 _ _ (S0.nS hpa) hpa, S0.nS hpa, by rw [List.length_map]; omega, fun s2 zs H4 S4 b4 ns2 hs2 hpm2 => ⟨by rw [PySem.sizeLine_eq]; decide, fun q2 nq => ?_⟩⟩
      obtain ⟨ws, rfl, hws⟩ := perm_strs hpm2
      have hn4 := b4 _ _ nta hn3
      have kq : Keeps H4 (L2.upd H4 q2 (.tup [.ref s2, .ref nt])) := Keeps.new nq
      refine q q2 s2 nt ws Es _ (S4.new nq) ((b3.trans b4).trans (Keeps.but kq)) ?_ upd_same ⟨kq _ _ hs2, us, kq _ _ hn4, (hus.but S3 b4).keeps kq⟩ hws (by rw [hes]; exact hE0.map _)
      cases e : H q2 with
      | none => rfl
      | some o => have := (b3.trans b4) q2 o (S4.ne1 nq) e; rw [nq] at this; cases this
end
end K01
namespace K01
open PySem PySem.Spec PyProof.Rows L2 TL HotExc Tw WX
local macro_rules | `(tactic| walk_at "rd") => `(tactic| simp only [start1, wipe, isR, isBool, isInt, isStr, isLst, isTup, tAsg, gName, gSub, tVar, tC, tOp, tUn, tTest, tIfS, tRet, tRetN, tDrop, tB, tAnd, tOr, tNot, tAndV, tOrV, tNotV, tIf, tCB, tCons, tNil, tNext, tCall, tBM, tTup, tLst, rU, rInW, rNinW, Int.reduceNeg, tG, tG2, sP, tFldC, sFldC, tProp, tMeth, tMake, rOwnC, rLenO, rIsC, rNoT, tAddT, tSAddK, rSAddK, rSInK, rSet0K, rSet0T, rMinS, rMaxS, rSortedQ, rSortedT, rEqD, rNeD, rIxD, dcL_eq, dcZ_eq, lcO_eq, forE_eq, forT_eq, lcS_eq, ItX.rIterN, iOwn, List.append_nil, tDisp, tPairs, tCallS, tCallSD, tCallT, StX.tStar, tCallK, tCallKS, rTupOf, tDrop, rI0, rI, rEq, rNe, scal, forR_eq, forR2_eq, forS_eq, forL_eq, lcT_eq, lcRT_eq, lcS_eq, rLenX, rLenS, rListOf, tRevL, rMulS, rRepL, rCatL, rSumN, rMaxN, tBM0, rPop, tAug, ipI,  tPart, tNoPart, CwR.tReplC, rAllK, rInSg, rNinSg, sgn_inj, rAddS, rInSt, tChain, tM1, tM0, rSplitN, rJoinN, exists_eq, rIntI, rIntB, rIntS, rStrI, rAbs, rOrd, rMin, rMax, rIxL, rIxX, rSetL, rAppend, rIxS, rSlS, rSlL, tSl, List.map_cons, List.map_nil, List.replicate_succ, List.replicate_zero, List.length_cons, List.length_nil, Nat.reduceSub, Nat.reduceAdd, Nat.zero_add, Nat.sub_self, List.getElem?_cons_zero, List.getElem?_cons_succ, List.set_cons_zero, List.set_cons_succ, List.append_nil, List.nil_append, List.cons_append, Option.some.injEq, not_true_eq_false, reduceCtorEq, exists_eq_left', exists_eq_left, exists_eq', exists_and_left, exists_and_right, V.int.injEq, V.str.injEq, V.bl.injEq, V.ref.injEq, List.cons.injEq, and_true, true_and, and_assoc, decide_eq_true_eq, Bool.not_eq_true', decide_eq_false_iff_not, ite_true, ite_false, if_true, if_false, Bool.not_true, Bool.not_false, Bool.false_eq_true, eq_self_iff_true, reduceIte, ne_eq, Int.reduceEq, not_false_eq_true])
local macro_rules | `(tactic| walk_at "rt") => `(tactic| try walk_at "rd")
local macro_rules | `(tactic| walk_at "st") => `(tactic| (walk_at "rt"; refine r_seq ?_; walk_at "rt"))
local macro_rules | `(tactic| walk_at "hp") => `(tactic| first | assumption | exact upd_same | (rw [upd_ne (by assumption)]; walk_at "hp"))
local macro_rules | `(tactic| walk_at "ex1") => `(tactic| ((with_reducible refine Exists.intro ?w (And.intro ?hx ?_)); (case hx => first | exact sq_of (by walk_at "hp") | exact .inl (sq_of (by walk_at "hp")) | exact rfl | (show _ = some (HO.lst _); walk_at "hp"))))
local macro_rules | `(tactic| walk_at "ex") => `(tactic| repeat (first | walk_at "ex1" | walk_at "rd"))
abbrev s_someagain : Stmt := topS 51
theorem sc_someagain : FnScope ["store", "row", "found"] ["store", "row"] (defScope s_someagain) := ⟨rfl, rfl, rfl, by decide +kernel, rfl, by decide +kernel, by decide +kernel⟩
abbrev s_stranger : Stmt := topS 57
theorem sc_stranger : FnScope ["store", "taken", "name", "kind"] ["store", "taken"] (defScope s_stranger) := ⟨rfl, rfl, rfl, by decide +kernel, rfl, by decide +kernel, by decide +kernel⟩

def spSomeA : Sp := fun vs H Q _ => ∃ (a c p : Addr) (ws : List Str), vs = [.ref a, .ref p] ∧ StoreAt H a c ∧ H p = some (.lst (ws.map V.str)) ∧ ws.length ≤ 60 ∧
  ∀ q ys H', StoreAt H' a c → But a H H' → H q = none → H' q = some (.lst ((ys : List Str).map V.str)) → (∀ y ∈ ys, y ∈ ws) → ys.length ≤ ws.length + 1 → Q (.ref q) H'
def spStranger : Sp := fun vs H Q _ => ∃ (a c p : Addr) (ts : List Str), vs = [.ref a, .ref p] ∧ StoreAt H a c ∧ H p = some (.lst (ts.map V.str)) ∧ ts.length < 60 ∧ (∀ z ∈ ts, nm (tl z)) ∧ Drawn H a c (fun v => ∃ z : Str, v = .str z ∧ nm (tl z) ∧ z ∉ ts) Q
def spFirstOdd : Sp := fun vs H Q _ => ∃ (p r : Addr) (ws zs : List Str), vs = [.ref p, .ref r] ∧ H p = some (.lst (ws.map V.str)) ∧ H r = some (.lst (zs.map V.str)) ∧ Q (match zs.find? (fun z => decide (z ∉ ws)) with | some z => .str z | none => .non) H
theorem sub_strs {ys : List V} {ws : List Str} (h : ys.Sublist (ws.map V.str)) : ∃ zs : List Str, ys = zs.map V.str ∧ zs.Sublist ws := by
  obtain ⟨zs, h1, h2⟩ := List.sublist_map_iff.mp h
  exact ⟨zs, h2, h1⟩
section
variable {P : Program} {w : World} {K : PySem.W.Frag} {mg : Str → Option Value} {base : Heap}
theorem ok_someagain {f f_shuffled f_some f_chance f_take f_pick : Addr} {fd fd_shuffled fd_some fd_chance fd_take fd_pick : FuncData} (B : Bi mg) (D : Dn K mg "_law_some_again" s_someagain ["store", "row"] f fd) (D_shuffled : Dn K mg "_law_shuffled" s_shuffled ["store", "row"] f_shuffled fd_shuffled) (D_some : Dn K mg "_law_some" s_some ["store", "row"] f_some fd_some)
    (D_chance : Dn K mg "_law_chance" s_chance ["store", "many"] f_chance fd_chance) (D_take : Dn K mg "_law_take" s_take ["store", "many"] f_take fd_take) (D_pick : Dn K mg "_law_pick" s_pick ["store", "row"] f_pick fd_pick)
    (G_shuffled : FnOk P w K mg base CX0 3 f_shuffled fd_shuffled ["store", "row"] (spShuf K)) (G_some : FnOk P w K mg base CX0 4 f_some fd_some ["store", "row"] spSome) (G_chance : FnOk P w K mg base CX0 3 f_chance fd_chance ["store", "many"] spChance)
    (G_take : FnOk P w K mg base CX0 2 f_take fd_take ["store", "many"] spTake) (G_pickL : FnOk P w K mg base CX0 3 f_pick fd_pick ["store", "row"] spPickL) : FnOk P w K mg base CX0 5 f fd ["store", "row"] spSomeA := by
  refine D.F.ok sc_someagain (fun vs H Q E h => ?_) (fun cdv A outer s H vs Q E hr h => ?_)
  · obtain ⟨a, c, p, ws, rfl, _⟩ := h
    rfl
  · obtain ⟨a, c, p, ws, rfl, S0, hp, hl, q⟩ := h
    refine ⟨_, (pss_cons (ps_set (i := 2) sc_someagain.nd rfl (.inl rfl) (pe_call G_shuffled (hr.mono (by omega)) (by rfl) D_shuffled.g D_shuffled.F.kp D_shuffled.b .nil pass0 (pa_cons (pv 0) (pa_cons (pe_call G_some (hr.mono (by omega)) (by rfl) D_some.g D_some.F.kp D_some.b .nil pass0 (pa_cons (pv 0) (pa_cons (pv 1) pa_nil))) pa_nil))))
      (C8.pss_cut (ps_if (PW.pt (pw_and (pt_cmpR op_gt (pe_callB (call_lenXK (K := K)) (by rfl) B.len PySem.boot_len (pa_cons (pv 2) pa_nil)) pe_int (nomark _)) (pw_and1 (pt_val (pe_call G_chance (hr.mono (by omega)) (by rfl) D_chance.g D_chance.F.kp D_chance.b .nil pass0 (pa_cons (pv 0) (pa_cons pe_int pa_nil))))))) (pss_one (ps_expr (pe_bm PySem.F.plainAttrs_list PySem.F.slot_list_insert PySem.F.type_list_insert mt_insert (pv 2) (pa_cons (pe_call G_take (hr.mono (by omega)) (by rfl) D_take.g D_take.F.kp D_take.b .nil pass0 (pa_cons (pv 0) (pa_cons (pe_op op_add (pe_callB (call_lenXK (K := K)) (by rfl) B.len PySem.boot_len (pa_cons (pv 2) pa_nil)) pe_int) pa_nil))) (pa_cons (pe_call G_pickL (hr.mono (by omega)) (by rfl) D_pick.g D_pick.F.kp D_pick.b .nil pass0 (pa_cons (pv 0) (pa_cons (pv 2) pa_nil))) pa_nil))))) pss_nil)
      (pss_one (ps_ret (pv 2))))), ?_⟩
    walk_at "st"
    refine ⟨a, c, p, _, rfl, S0, hp, S0.nS hp, by rw [List.length_map]; omega, fun s1 ys H1 S1 b1 ns1 hs1 hsub => ?_⟩
    obtain ⟨zs, rfl, hz⟩ := sub_strs hsub
    refine ⟨a, c, s1, _, rfl, S1, hs1, S1.nS hs1, by rw [List.length_map]; have := hz.length_le; omega, fun s2 ys H2 S2 b2 ns2 hs2 hpm => ?_⟩
    obtain ⟨us, rfl, hu⟩ := perm_strs hpm
    have b02 := b1.trans b2
    have n0 : H s2 = none := by
      cases e : H s2 with
      | none => rfl
      | some o => have := b1 s2 o (S1.ne1 ns2) e; rw [ns2] at this; cases this
    have hin : ∀ y ∈ us, y ∈ ws := fun y hy => hz.mem (hu.mem_iff.mp hy)
    have hlen : us.length ≤ ws.length := by rw [hu.length_eq]; exact hz.length_le
    walk_at "rt"
    refine r_cut (fun σ H' => σ = [some (.ref a), some (.ref p), some (.ref s2)] ∧ StoreAt H' a c ∧ But a H H' ∧ ∃ us : List Str, H' s2 = some (.lst (us.map V.str)) ∧ (∀ y ∈ us, y ∈ ws) ∧ us.length ≤ ws.length + 1) (fun N kk => ?_) ?_
    · have same : ∀ H', StoreAt H' a c → But a H2 H' → N [some (.ref a), some (.ref p), some (.ref s2)] H' := fun H' S' b' => kk _ _ ⟨rfl, S', b02.trans b', us, b' _ _ (S2.nS hs2) hs2, hin, by omega⟩
      walk_at "rt"
      refine ⟨_, .inl (sq_of hs2), ite2 (fun hpos => ⟨a, c, _, rfl, S2, by decide, fun v H3 S3 b3 ⟨bb, e⟩ => ⟨bb, e, ?_⟩⟩) (fun _ => same H2 S2 (fun _ _ _ h => h))⟩
      have hs3 := b3 _ _ (S2.nS hs2) hs2
      cases bb with
      | false =>
        simp only [Bool.false_eq_true, if_false]
        exact same H3 S3 b3
      | true =>
        simp only [if_true]
        walk_at "rt"
        refine ⟨.inl ⟨rfl, _, sq_of hs3⟩, _, .inl (sq_of hs3), a, c, _, rfl, S3, by rw [List.length_map]; omega, fun v H4 S4 b4 ⟨at_, e, t0, t1⟩ => ?_⟩
        subst e
        rw [List.length_map] at t1
        have hs4 := b4 _ _ (S3.nS hs3) hs3
        refine ⟨a, c, s2, _, rfl, S4, hs4, S4.nS hs4, fun z => ?_, by rw [List.length_map]; omega, fun v H5 S5 b5 hv => ?_⟩
        · rw [List.map_eq_nil_iff.mp z] at hpos
          exact absurd hpos (by decide)
        obtain ⟨y, hy, rfl⟩ := List.mem_map.mp hv
        have hs5 := b5 _ _ (S4.nS hs4) hs4
        refine ⟨_, _, rfl, hs5, size_ok (by rw [List.length_map]; omega), t0, by omega, kk _ _ ⟨rfl, S5.put (S5.nS hs5) (S0.ne2 n0), fun b o hb e => ?_, us.take at_.toNat ++ [y] ++ us.drop at_.toNat, ?_, fun x hx => ?_, ?_⟩⟩
        · rw [upd_ne (fun z => by rw [z, n0] at e; cases e)]
          exact ((b02.trans b3).trans b4).trans b5 b o hb e
        · rw [upd_same, List.map_append, List.map_append, List.map_take, List.map_drop]
          rfl
        · rw [List.mem_append, List.mem_append] at hx
          rcases hx with (hx | hx) | hx
          · exact hin x (List.mem_of_mem_take hx)
          · rw [List.mem_singleton.mp hx]
            exact hin y hy
          · exact hin x (List.mem_of_mem_drop hx)
        · rw [List.length_append, List.length_append, List.length_take, List.length_drop, List.length_singleton]
          omega
    · rintro σ H3 ⟨rfl, S3, b3, us, hs3, hin, hl⟩
      walk_at "rt"
      exact q s2 us H3 S3 b3 n0 hs3 hin hl
end
end K01
namespace K01
open PySem PySem.Spec PyProof.Rows L2 TL HotExc Tw WX
local macro_rules | `(tactic| walk_at "rd") => `(tactic| simp only [start1, wipe, isR, isBool, isInt, isStr, isLst, isTup, tAsg, gName, gSub, tVar, tC, tOp, tUn, tTest, tIfS, tRet, tRetN, tDrop, tB, tAnd, tOr, tNot, tAndV, tOrV, tNotV, tIf, tCB, tCons, tNil, tNext, tCall, tBM, tTup, tLst, rU, rInW, rNinW, Int.reduceNeg, tG, tG2, sP, tFldC, sFldC, tProp, tMeth, tMake, rOwnC, rLenO, rIsC, rNoT, tAddT, tSAddK, rSAddK, rSInK, rSet0K, rSet0T, rMinS, rMaxS, rSortedQ, rSortedT, rEqD, rNeD, rIxD, dcL_eq, dcZ_eq, lcO_eq, forE_eq, forT_eq, lcS_eq, ItX.rIterN, iOwn, List.append_nil, tDisp, tPairs, tCallS, tCallSD, tCallT, StX.tStar, tCallK, tCallKS, rTupOf, tDrop, rI0, rI, rEq, rNe, scal, forR_eq, forR2_eq, forS_eq, forL_eq, lcT_eq, lcRT_eq, lcS_eq, rLenX, rLenS, rListOf, tRevL, rMulS, rRepL, rCatL, rSumN, rMaxN, tBM0, rPop, tAug, ipI,  tPart, tNoPart, CwR.tReplC, rAllK, rInSg, rNinSg, sgn_inj, rAddS, rInSt, tChain, tM1, tM0, rSplitN, rJoinN, exists_eq, rIntI, rIntB, rIntS, rStrI, rAbs, rOrd, rMin, rMax, rIxL, rIxX, rSetL, rAppend, rIxS, rSlS, rSlL, tSl, List.map_cons, List.map_nil, List.replicate_succ, List.replicate_zero, List.length_cons, List.length_nil, Nat.reduceSub, Nat.reduceAdd, Nat.zero_add, Nat.sub_self, List.getElem?_cons_zero, List.getElem?_cons_succ, List.set_cons_zero, List.set_cons_succ, List.append_nil, List.nil_append, List.cons_append, Option.some.injEq, not_true_eq_false, reduceCtorEq, exists_eq_left', exists_eq_left, exists_eq', exists_and_left, exists_and_right, V.int.injEq, V.str.injEq, V.bl.injEq, V.ref.injEq, List.cons.injEq, and_true, true_and, and_assoc, decide_eq_true_eq, Bool.not_eq_true', decide_eq_false_iff_not, ite_true, ite_false, if_true, if_false, Bool.not_true, Bool.not_false, Bool.false_eq_true, eq_self_iff_true, reduceIte, ne_eq, Int.reduceEq, not_false_eq_true])
local macro_rules | `(tactic| walk_at "rt") => `(tactic| try walk_at "rd")
local macro_rules | `(tactic| walk_at "st") => `(tactic| (walk_at "rt"; refine r_seq ?_; walk_at "rt"))
local macro_rules | `(tactic| walk_at "hp") => `(tactic| first | assumption | exact upd_same | (rw [upd_ne (by assumption)]; walk_at "hp"))
local macro_rules | `(tactic| walk_at "ex1") => `(tactic| ((with_reducible refine Exists.intro ?w (And.intro ?hx ?_)); (case hx => first | exact sq_of (by walk_at "hp") | exact .inl (sq_of (by walk_at "hp")) | exact rfl | (show _ = some (HO.lst _); walk_at "hp"))))
local macro_rules | `(tactic| walk_at "ex") => `(tactic| repeat (first | walk_at "ex1" | walk_at "rd"))
theorem cut_last1 (l : List Nat) : cutS (S l) none (some (-1)) = S (l.take (l.length - 1)) := by
  have e : HT.sIx (S l).length (S l).length (some (-1)) = l.length - 1 := by
    rw [S_len]
    show (if (-1 : Int) < 0 then ((-1 : Int) + (l.length : Int)).toNat else min (-1 : Int).toNat l.length) = _
    rw [if_pos (by decide)]
    omega
  unfold cutS
  rw [HT.sIx_none, e, List.drop_zero, Nat.sub_zero]
  rfl
theorem nm_take6 {l : List Nat} {k : Nat} (h : nm l) (hk : lod k) : nm ((l ++ [k]).take 6) := by
  have hl := okd_len (.inr h)
  rw [List.take_append]
  refine nm_mix h (by decide) (fun x hx => ?_) ?_
  · rw [List.mem_singleton.mp (List.mem_of_mem_take hx)]
    exact hk
  · rw [List.length_take, List.length_take, List.length_singleton]
    omega
section
variable {P : Program} {w : World} {K : PySem.W.Frag} {mg : Str → Option Value} {base : Heap}
theorem ok_stranger {f f_name f_take f_pick f_unlike : Addr} {fd fd_name fd_take fd_pick fd_unlike : FuncData} (B : Bi mg) (D : Dn K mg "_law_stranger" s_stranger ["store", "taken"] f fd) (D_name : Dn K mg "_law_name" s_name ["store"] f_name fd_name) (D_take : Dn K mg "_law_take" s_take ["store", "many"] f_take fd_take) (D_pick : Dn K mg "_law_pick" s_pick ["store", "row"] f_pick fd_pick) (D_unlike : Dn K mg "_law_unlike" s_unlike ["name", "taken"] f_unlike fd_unlike)
    (G_name : FnOk P w K mg base CX0 5 f_name fd_name ["store"] spNam) (G_take : FnOk P w K mg base CX0 2 f_take fd_take ["store", "many"] spTake) (G_pick : FnOk P w K mg base CX0 3 f_pick fd_pick ["store", "row"] spPick) (G_pickL : FnOk P w K mg base CX0 3 f_pick fd_pick ["store", "row"] spPickL) (G_unlike : FnOk P w K mg base CX0 1 f_unlike fd_unlike ["name", "taken"] spUnlike) : FnOk P w K mg base CX0 6 f fd ["store", "taken"] spStranger := by
  refine D.F.ok sc_stranger (fun vs H Q E h => ?_) (fun cdv A outer s H vs Q E hr h => ?_)
  · obtain ⟨a, c, p, ts, rfl, _⟩ := h
    rfl
  · obtain ⟨a, c, p, ts, rfl, S0, hp, hl, hnm, q⟩ := h
    refine ⟨_, (pss_cons (ps_set (i := 2) sc_stranger.nd rfl (.inl rfl) (pe_call G_name (hr.mono (by omega)) (by rfl) D_name.g D_name.F.kp D_name.b .nil pass0 (pa_cons (pv 0) pa_nil)))
      (pss_cons (ps_set (i := 3) sc_stranger.nd rfl (.inl rfl) (pe_call G_take (hr.mono (by omega)) (by rfl) D_take.g D_take.F.kp D_take.b .nil pass0 (pa_cons (pv 0) (pa_cons pe_int pa_nil))))
      (C8.pss_cut (ps_if (PW.pt (pw_and (pt_cmpR op_lt (pv 3) pe_int (nomark _)) (pw_and1 (pt_cmpR op_gt (pe_callB (call_lenXK (K := K)) (by rfl) B.len PySem.boot_len (pa_cons (pv 1) pa_nil)) pe_int (nomark _))))) (pss_cons (ps_set (i := 2) sc_stranger.nd rfl (.inl rfl) (pe_call G_pickL (hr.mono (by omega)) (by rfl) D_pick.g D_pick.F.kp D_pick.b .nil pass0 (pa_cons (pv 0) (pa_cons (pv 1) pa_nil))))
      (pss_one (ps_if (PW.pt (pw_or (pt_cmpR op_eq (pv 3) pe_int (nomark _)) (pw_or1 (pt_cmpR op_eq (pe_callB call_lenS (by rfl) B.len PySem.boot_len (pa_cons (pv 2) pa_nil)) pe_int (nomark _))))) (pss_one (ps_set (i := 2) sc_stranger.nd rfl (.inl rfl) (pe_slice sl_str (pe_op op_addS (pv 2) (pe_call G_pick (hr.mono (by omega)) (by rfl) D_pick.g D_pick.F.kp D_pick.b .nil pass0 (pa_cons (pv 0) (pa_cons pe_str pa_nil)))) po_none (po_some pe_int)))) (pss_one (ps_set (i := 2) sc_stranger.nd rfl (.inl rfl) (pe_slice sl_str (pv 2) po_none (po_some (pe_un un_neg pe_int)))))))) pss_nil)
      (C8.pss_cut (ps_if (pt_cmpR op_eq (pv 3) pe_int (nomark _)) (pss_one (ps_set (i := 2) sc_stranger.nd rfl (.inl rfl) pe_str)) pss_nil)
      (pss_one (ps_ret (pe_call G_unlike (hr.mono (by omega)) (by rfl) D_unlike.g D_unlike.F.kp D_unlike.b .nil pass0 (pa_cons (pv 2) (pa_cons (pv 1) pa_nil))))))))), ?_⟩
    walk_at "st"
    refine ⟨a, c, rfl, S0, fun v H1 S1 b1 ⟨l, e, hl1⟩ => ?_⟩
    subst e
    walk_at "st"
    refine ⟨a, c, _, rfl, S1, by decide, fun v H2 S2 b2 ⟨kind, e, k0, k1⟩ => ?_⟩
    subst e
    have hp2 := b2 _ _ (S1.nS (b1 _ _ (S0.nS hp) hp)) (b1 _ _ (S0.nS hp) hp)
    have b02 := b1.trans b2
    walk_at "rt"
    refine r_cut (fun σ H' => StoreAt H' a c ∧ But a H2 H' ∧ ∃ l, nm l ∧ σ = [some (.ref a), some (.ref p), some (.str (S l)), some (.int kind)]) (fun N kk => ?_) ?_
    · have same := kk _ _ ⟨S2, fun _ _ _ h => h, l, hl1, rfl⟩
      walk_at "rt"
      refine ite2 (fun _ => ⟨_, .inl (sq_of hp2), ite2 (fun hpos => ?_) (fun _ => same)⟩) (fun _ => same)
      walk_at "st"
      refine ⟨a, c, p, _, rfl, S2, hp2, S2.nS hp2, fun z => ?_, by rw [List.length_map]; omega, fun v H3 S3 b3 hv => ?_⟩
      · rw [List.map_eq_nil_iff.mp z] at hpos
        exact absurd hpos (by decide)
      obtain ⟨y, hy, rfl⟩ := List.mem_map.mp hv
      have hy := hnm y hy
      rw [show y = S (tl y) from (S_tl y).symm]
      generalize tl y = ly at hy
      have hly := okd_len (.inr hy)
      walk_at "rt"
      have more : spPick [V.ref a, V.str (Str.ofString "a0z")] H3 (fun y H2 => ∃ j, y = V.str j ∧ (S ly).length + j.length ≤ sizeLine ∧ (S ly ++ j).length ≤ sizeLine ∧ N [some (V.ref a), some (V.ref p), some (V.str (cutS (S ly ++ j) none (some 6))), some (V.int kind)] H2) E0 := by
        refine ⟨a, c, _, rfl, S3, by decide +kernel, by decide +kernel, fun v H4 S4 b4 ⟨k, hk, e⟩ => ⟨_, e, ?_⟩⟩
        have hk : lod k := by
          have e : (Str.ofString "a0z").cps.toList = [97, 48, 122] := by decide +kernel
          rw [e] at hk
          simp only [List.mem_cons, List.not_mem_nil, or_false] at hk
          rcases hk with rfl | rfl | rfl
          · exact .inl ⟨by decide, by decide⟩
          · exact .inr ⟨by decide, by decide⟩
          · exact .inl ⟨by decide, by decide⟩
        rw [show ({ cps := #[k] } : Str) = S [k] from rfl, S_app, S_len, S_len, S_len]
        refine ⟨line_of (by rw [List.length_singleton]; omega), line_of (by rw [List.length_append, List.length_singleton]; omega), kk _ _ ⟨S4, b3.trans b4, (ly ++ [k]).take 6, nm_take6 hy hk, ?_⟩⟩
        rw [show cutS (S (ly ++ [k])) none (some 6) = S ((ly ++ [k]).take 6) from cut_pre (ly ++ [k]) 6]
      refine ite2 (fun _ => more) (fun _ => ⟨line_of (by rw [S_len]; omega), ite2 (fun _ => more) (fun h1 => ⟨line_of (by rw [S_len]; omega), kk _ _ ⟨S3, b3, ly.take (ly.length - 1), ?_, by rw [cut_last1]⟩⟩)⟩)
      rw [S_len] at h1
      have hne := List.length_pos_iff.mpr (nm_ne hy)
      have := nm_mix (ds := []) (k := ly.length - 1) hy (by omega) (fun x hx => by cases hx) (by rw [List.length_take, List.length_nil]; omega)
      rw [List.append_nil] at this
      exact this
    rintro σ H3 ⟨S3, b3, l, hl2, rfl⟩
    have hp3 := b3 _ _ (S2.nS hp2) hp2
    walk_at "rt"
    refine r_cut (fun σ H' => H' = H3 ∧ ∃ l, nm l ∧ σ = [some (.ref a), some (.ref p), some (.str (S l)), some (.int kind)]) (fun N kk => ?_) ?_
    · walk_at "rt"
      refine ite2 (fun _ => ?_) (fun _ => kk _ _ ⟨rfl, l, hl2, rfl⟩)
      have hz : nm (tl (Str.ofString "zzzzzz")) := by
        rw [show tl (Str.ofString "zzzzzz") = [122, 122, 122, 122, 122, 122] by decide +kernel]
        exact ⟨⟨by decide, by decide⟩, by decide, fun x hx => .inl (by simp at hx; omega)⟩
      exact kk _ _ ⟨rfl, tl (Str.ofString "zzzzzz"), hz, by rw [S_tl]⟩
    rintro σ H4 ⟨rfl, l, hl3, rfl⟩
    walk_at "rt"
    exact ⟨S l, p, ts, rfl, by rw [tl_S]; exact hl3, hp3, by omega, fun y hy hn => q _ _ S3 (b02.trans b3) ⟨y, rfl, hy, hn⟩⟩
end
end K01
namespace K01
open PySem PySem.Spec PyProof.Rows L2 TL HotExc Tw WX
local macro_rules | `(tactic| walk_at "rd") => `(tactic| simp only [start1, wipe, isR, isBool, isInt, isStr, isLst, isTup, tAsg, gName, gSub, tVar, tC, tOp, tUn, tTest, tIfS, tRet, tRetN, tDrop, tB, tAnd, tOr, tNot, tAndV, tOrV, tNotV, tIf, tCB, tCons, tNil, tNext, tCall, tBM, tTup, tLst, rU, rInW, rNinW, Int.reduceNeg, tG, tG2, sP, tFldC, sFldC, tProp, tMeth, tMake, rOwnC, rLenO, rIsC, rNoT, tAddT, tSAddK, rSAddK, rSInK, rSet0K, rSet0T, rMinS, rMaxS, rSortedQ, rSortedT, rEqD, rNeD, rIxD, dcL_eq, dcZ_eq, lcO_eq, forE_eq, forT_eq, lcS_eq, ItX.rIterN, iOwn, List.append_nil, tDisp, tPairs, tCallS, tCallSD, tCallT, StX.tStar, tCallK, tCallKS, rTupOf, tDrop, rI0, rI, rEq, rNe, scal, forR_eq, forR2_eq, forS_eq, forL_eq, lcT_eq, lcRT_eq, lcS_eq, rLenX, rLenS, rListOf, tRevL, rMulS, rRepL, rCatL, rSumN, rMaxN, tBM0, rPop, tAug, ipI,  tPart, tNoPart, CwR.tReplC, rAllK, rInSg, rNinSg, sgn_inj, rAddS, rInSt, tChain, tM1, tM0, rSplitN, rJoinN, exists_eq, rIntI, rIntB, rIntS, rStrI, rAbs, rOrd, rMin, rMax, rIxL, rIxX, rSetL, rAppend, rIxS, rSlS, rSlL, tSl, List.map_cons, List.map_nil, List.replicate_succ, List.replicate_zero, List.length_cons, List.length_nil, Nat.reduceSub, Nat.reduceAdd, Nat.zero_add, Nat.sub_self, List.getElem?_cons_zero, List.getElem?_cons_succ, List.set_cons_zero, List.set_cons_succ, List.append_nil, List.nil_append, List.cons_append, Option.some.injEq, not_true_eq_false, reduceCtorEq, exists_eq_left', exists_eq_left, exists_eq', exists_and_left, exists_and_right, V.int.injEq, V.str.injEq, V.bl.injEq, V.ref.injEq, List.cons.injEq, and_true, true_and, and_assoc, decide_eq_true_eq, Bool.not_eq_true', decide_eq_false_iff_not, ite_true, ite_false, if_true, if_false, Bool.not_true, Bool.not_false, Bool.false_eq_true, eq_self_iff_true, reduceIte, ne_eq, Int.reduceEq, not_false_eq_true])
local macro_rules | `(tactic| walk_at "rt") => `(tactic| try walk_at "rd")
local macro_rules | `(tactic| walk_at "st") => `(tactic| (walk_at "rt"; refine r_seq ?_; walk_at "rt"))
local macro_rules | `(tactic| walk_at "hp") => `(tactic| first | assumption | exact upd_same | (rw [upd_ne (by assumption)]; walk_at "hp"))
local macro_rules | `(tactic| walk_at "ex1") => `(tactic| ((with_reducible refine Exists.intro ?w (And.intro ?hx ?_)); (case hx => first | exact sq_of (by walk_at "hp") | exact .inl (sq_of (by walk_at "hp")) | exact rfl | (show _ = some (HO.lst _); walk_at "hp"))))
local macro_rules | `(tactic| walk_at "ex") => `(tactic| repeat (first | walk_at "ex1" | walk_at "rd"))
abbrev s_badname : Stmt := topS 54
theorem sc_badname : FnScope ["store", "name", "at", "kind"] ["store"] (defScope s_badname) := ⟨rfl, rfl, rfl, by decide +kernel, rfl, by decide +kernel, by decide +kernel⟩


/-- a short text that is no name -/
abbrev Low (l : List Nat) : Prop := ∀ x ∈ l, x < 1114112
theorem low_ok {z : Str} : PyData.strOk z = true ↔ Low (tl z) := by
  unfold PyData.strOk
  rw [← Array.all_toList, List.all_eq_true]
  exact ⟨fun h c hc => of_decide_eq_true (h c hc), fun h c hc => decide_eq_true (h c hc)⟩
theorem low_nil : Low [] := fun _ h => (by cases h)
theorem low_app {a b : List Nat} (h : Low a) (g : Low b) : Low (a ++ b) := fun x hx => (List.mem_append.mp hx).elim (h x) (g x)
theorem low_tk {a : List Nat} {k : Nat} (h : Low a) : Low (a.take k) := fun x hx => h x (List.mem_of_mem_take hx)
theorem low_dr {a : List Nat} {k : Nat} (h : Low a) : Low (a.drop k) := fun x hx => h x (List.mem_of_mem_drop hx)
theorem low_one {c : Nat} (h : c < 1114112) : Low [c] := fun x hx => by rw [List.mem_singleton.mp hx]; exact h
theorem low_nm {l : List Nat} (h : nm l) : Low l := fun x hx => by
  have := nm_mem h hx
  rcases this with h | h <;> omega
theorem low_fl {l : List Nat} (h : Low l) (n : Nat) : Low (List.replicate n l).flatten := fun x hx => by
  obtain ⟨m, hm, hx⟩ := List.mem_flatten.mp hx
  rw [(List.mem_replicate.mp hm).2] at hx
  exact h x hx
def Bad (v : V) : Prop := ∃ z : Str, v = .str z ∧ ¬ nm (tl z) ∧ z.length ≤ 60 ∧ PyData.strOk z = true
def spBadName : Sp := fun vs H Q _ => ∃ (a c : Addr), vs = [.ref a] ∧ StoreAt H a c ∧ Drawn H a c Bad Q
theorem nm_has {l : List Nat} {c : Nat} (h : c ∈ l) (hc : ¬ lod c) : ¬ nm l := fun n => hc (nm_mem n h)
theorem nm_long {l : List Nat} (h : 7 ≤ l.length) : ¬ nm l := fun n => by have := okd_len (.inr n); omega
theorem nm_head {l : List Nat} {c : Nat} (hc : ¬ low c) : ¬ nm (c :: l) := fun n => hc n.1
theorem mul7 {l : List Nat} (h : l ≠ []) : Txt.mul (S l) 7 = S (List.replicate 7 l).flatten := by
  unfold Txt.mul
  have hn : ((7 : Int) == 1 || (S l).length == 0) = false := by
    rw [S_len]
    have := List.length_pos_iff.mpr h
    simp
    omega
  rw [if_neg (by decide), hn]
  refine tl_inj ?_
  show (List.foldl (fun x1 x2 => x1 ++ x2) (#[] : Array Nat) (List.replicate 7 (l.toArray))).toList = _
  simp [List.replicate, tl_S]
section
variable {P : Program} {w : World} {K : PySem.W.Frag} {mg : Str → Option Value} {base : Heap}
theorem ok_badname {f f_name f_take f_pick : Addr} {fd fd_name fd_take fd_pick : FuncData} (B : Bi mg) (D : Dn K mg "_law_bad_name" s_badname ["store"] f fd) (D_name : Dn K mg "_law_name" s_name ["store"] f_name fd_name) (D_take : Dn K mg "_law_take" s_take ["store", "many"] f_take fd_take) (D_pick : Dn K mg "_law_pick" s_pick ["store", "row"] f_pick fd_pick)
    (G_name : FnOk P w K mg base CX0 5 f_name fd_name ["store"] spNam) (G_take : FnOk P w K mg base CX0 2 f_take fd_take ["store", "many"] spTake) (G_pick : FnOk P w K mg base CX0 3 f_pick fd_pick ["store", "row"] spPick) : FnOk P w K mg base CX0 6 f fd ["store"] spBadName := by
  refine D.F.ok sc_badname (fun vs H Q E h => ?_) (fun cdv A outer s H vs Q E hr h => ?_)
  · obtain ⟨a, c, rfl, _⟩ := h
    rfl
  · obtain ⟨a, c, rfl, S0, q⟩ := h
    refine ⟨_, (pss_cons (ps_set (i := 1) sc_badname.nd rfl (.inl rfl) (pe_call G_name (hr.mono (by omega)) (by rfl) D_name.g D_name.F.kp D_name.b .nil pass0 (pa_cons (pv 0) pa_nil)))
      (pss_cons (ps_set (i := 2) sc_badname.nd rfl (.inl rfl) (pe_call G_take (hr.mono (by omega)) (by rfl) D_take.g D_take.F.kp D_take.b .nil pass0 (pa_cons (pv 0) (pa_cons (pe_callB call_lenS (by rfl) B.len PySem.boot_len (pa_cons (pv 1) pa_nil)) pa_nil))))
      (pss_cons (ps_set (i := 3) sc_badname.nd rfl (.inl rfl) (pe_call G_take (hr.mono (by omega)) (by rfl) D_take.g D_take.F.kp D_take.b .nil pass0 (pa_cons (pv 0) (pa_cons pe_int pa_nil))))
      (pss_cons (ps_if (pt_cmpR op_eq (pv 3) pe_int (nomark _)) (pss_one (ps_ret pe_str)) pss_nil)
      (pss_cons (ps_if (pt_cmpR op_eq (pv 3) pe_int (nomark _)) (pss_one (ps_ret (pe_op op_addS (pe_slice sl_str (pe_op op_addS (pv 1) pe_str) po_none (po_some pe_int)) (pe_call G_pick (hr.mono (by omega)) (by rfl) D_pick.g D_pick.F.kp D_pick.b .nil pass0 (pa_cons (pv 0) (pa_cons pe_str pa_nil)))))) pss_nil)
      (pss_cons (ps_if (pt_cmpR op_eq (pv 3) pe_int (nomark _)) (pss_one (ps_ret (pe_op op_addS (pe_call G_pick (hr.mono (by omega)) (by rfl) D_pick.g D_pick.F.kp D_pick.b .nil pass0 (pa_cons (pv 0) (pa_cons pe_str pa_nil))) (pe_slice sl_str (pv 1) (po_some pe_int) po_none)))) pss_nil)
      (pss_cons (ps_if (pt_cmpR op_eq (pv 3) pe_int (nomark _)) (pss_one (ps_ret (pe_op op_addS (pe_op op_addS (pe_slice sl_str (pv 1) po_none (po_some (pv 2))) (pe_call G_pick (hr.mono (by omega)) (by rfl) D_pick.g D_pick.F.kp D_pick.b .nil pass0 (pa_cons (pv 0) (pa_cons pe_str pa_nil)))) (pe_slice sl_str (pv 1) (po_some (pe_op op_add (pv 2) pe_int)) po_none)))) pss_nil)
      (pss_cons (ps_if (pt_cmpR op_eq (pv 3) pe_int (nomark _)) (pss_one (ps_ret (pe_op op_addS (pe_op op_addS (pe_op op_addS (pe_slice sl_str (pv 1) po_none (po_some (pv 2))) (pe_call G_pick (hr.mono (by omega)) (by rfl) D_pick.g D_pick.F.kp D_pick.b .nil pass0 (pa_cons (pv 0) (pa_cons pe_str pa_nil)))) (pe_slice sl_str (pv 1) (po_some (pe_op op_add (pv 2) pe_int)) po_none)) pe_str))) pss_nil)
      (pss_cons (ps_if (pt_cmpR op_eq (pv 3) pe_int (nomark _)) (pss_one (ps_ret (pe_op op_addS (pe_slice sl_str (pv 1) po_none (po_some pe_int)) (pe_call G_pick (hr.mono (by omega)) (by rfl) D_pick.g D_pick.F.kp D_pick.b .nil pass0 (pa_cons (pv 0) (pa_cons pe_str pa_nil)))))) pss_nil)
      (pss_cons (ps_if (pt_cmpR op_eq (pv 3) pe_int (nomark _)) (pss_one (ps_ret (pe_op op_addS (pe_call G_pick (hr.mono (by omega)) (by rfl) D_pick.g D_pick.F.kp D_pick.b .nil pass0 (pa_cons (pv 0) (pa_cons pe_str pa_nil))) (pe_slice sl_str (pv 1) po_none (po_some pe_int))))) pss_nil)
      (pss_cons (ps_if (pt_cmpR op_eq (pv 3) pe_int (nomark _)) (pss_one (ps_ret (pe_op op_mulS (pv 1) pe_int))) pss_nil)
      (pss_one (ps_ret (pe_call G_pick (hr.mono (by omega)) (by rfl) D_pick.g D_pick.F.kp D_pick.b .nil pass0 (pa_cons (pv 0) (pa_cons pe_str pa_nil)))))))))))))))), ?_⟩
    walk_at "st"
    refine ⟨a, c, rfl, S0, fun v H1 S1 b1 ⟨l, e, hn⟩ => ?_⟩
    subst e
    have hl := okd_len (.inr hn)
    have hpos := List.length_pos_iff.mpr (nm_ne hn)
    walk_at "st"
    rw [S_len]
    refine ⟨line_of (by omega), a, c, _, rfl, S1, by omega, fun v H2 S2 b2 ⟨at_, e, t0, t1⟩ => ?_⟩
    subst e
    walk_at "st"
    refine ⟨a, c, _, rfl, S2, by decide, fun v H3 S3 b3 ⟨kind, e, k0, k1⟩ => ?_⟩
    subst e
    have b03 := (b1.trans b2).trans b3
    obtain ⟨k, rfl⟩ : ∃ n : Nat, at_ = (n : Int) := ⟨at_.toNat, by omega⟩
    have ret : ∀ (H' : Hp) (l : List Nat), StoreAt H' a c → But a H3 H' → ¬ nm l → l.length ≤ 60 → Low l → Q (.str (S l)) H' := fun H' l S' b' hn hl lo => q _ H' S' (b03.trans b') ⟨S l, rfl, by rw [tl_S]; exact hn, by rw [S_len]; exact hl, low_ok.mpr (by rw [tl_S]; exact lo)⟩
    have Ll := low_nm hn
    have pick : ∀ (z : Str) (Qk : VK), z.cps.toList ≠ [] → z.length ≤ 1000 → PyData.strOk z = true → (∀ (ch : Nat) (H' : Hp), ch < 1114112 → ch ∈ z.cps.toList → StoreAt H' a c → But a H3 H' → Qk (.str (S [ch])) H') → spPick [V.ref a, V.str z] H3 Qk E0 := fun z Qk h1 h2 h4 h3 => ⟨a, c, z, rfl, S3, h1, h2, fun v H' S' b' ⟨ch, hc, e⟩ => by rw [e]; exact h3 ch H' (low_ok.mp h4 ch hc) hc S' b'⟩
    have sa : tl (Str.ofString "abcdef0") = [97, 98, 99, 100, 101, 102, 48] := by decide +kernel
    have e0 : cutS (S l) none (some (k : Int)) = S (l.take k) := cut_pre l k
    have e1 : cutS (S l) (some ((k : Int) + 1)) none = S (l.drop (k + 1)) := by
      rw [show ((k : Int) + 1) = ((k + 1 : Nat) : Int) by omega]
      exact cut_suf _ _
    have e5 : cutS (S l) none (some 5) = S (l.take 5) := cut_pre l 5
    have es : cutS (S l) (some 1) none = S (l.drop 1) := cut_suf l 1
    have lt : ∀ k, (l.take k).length ≤ 6 := fun k => by rw [List.length_take]; omega
    have ld : ∀ k, (l.drop k).length ≤ 6 := fun k => by rw [List.length_drop]; omega
    walk_at "st"
    refine ite2 (fun _ => ?_) (fun _ => ?_)
    · rw [S_emp]
      exact ret H3 [] S3 (fun _ _ _ h => h) (fun h => h) (by decide) low_nil
    walk_at "st"
    refine ite2 (fun _ => ?_) (fun _ => ?_)
    · rw [← S_tl (Str.ofString "abcdef0"), sa, S_app, S_len, S_len, S_len, show cutS (S (l ++ [97, 98, 99, 100, 101, 102, 48])) none (some 6) = S ((l ++ [97, 98, 99, 100, 101, 102, 48]).take 6) from cut_pre _ 6]
      have h6 : ((l ++ [97, 98, 99, 100, 101, 102, 48]).take 6).length = 6 := by
        rw [List.length_take, List.length_append]
        simp <;> omega
      refine ⟨line_of (by simp <;> omega), line_of (by rw [List.length_append]; simp <;> omega), pick _ _ (by decide +kernel) (by decide +kernel) (by decide +kernel) fun ch H' hb hc S' b' => ⟨_, rfl, ?_⟩⟩
      rw [S_app, S_len, S_len, h6]
      exact ⟨line_of (by simp), ret H' _ S' b' (nm_long (by rw [List.length_append, h6]; simp)) (by rw [List.length_append, h6]; simp) (low_app (low_tk (low_app Ll (by decide))) (low_one hb))⟩
    walk_at "st"
    refine ite2 (fun _ => ?_) (fun _ => ?_)
    · refine pick _ _ (by decide +kernel) (by decide +kernel) (by decide +kernel) fun ch H' hb hc S' b' => ⟨line_of (by rw [S_len]; omega), _, rfl, ?_⟩
      have := (digm ch).mp hc
      rw [es, S_app, S_len, S_len]
      exact ⟨line_of (by have := ld 1; simp <;> omega), ret H' _ S' b' (nm_head (by unfold low; omega)) (by have := ld 1; simp <;> omega) (low_app (low_one hb) (low_dr Ll))⟩
    walk_at "st"
    refine ite2 (fun _ => ?_) (fun _ => ?_)
    · refine ⟨line_of (by rw [S_len]; omega), pick _ _ (by decide +kernel) (by decide +kernel) (by decide +kernel) fun ch H' hb hc S' b' => ⟨_, rfl, ?_⟩⟩
      have hc : ¬ lod ch := by
        have e : (Str.ofString "ABCXYZ").cps.toList = [65, 66, 67, 88, 89, 90] := by decide +kernel
        rw [e] at hc
        simp only [List.mem_cons, List.not_mem_nil, or_false] at hc
        unfold lod
        omega
      have h1 := lt k
      have h2 := ld (k + 1)
      simp only [e0, e1, S_app, S_len, List.length_append, List.length_singleton]
      exact ⟨line_of (by omega), line_of (by omega), line_of (by omega), ret H' _ S' b' (nm_has (c := ch) (by simp) hc) (by rw [List.length_append, List.length_append, List.length_singleton]; omega) (low_app (low_app (low_tk Ll) (low_one hb)) (low_dr Ll))⟩
    walk_at "st"
    refine ite2 (fun _ => ?_) (fun _ => ?_)
    · refine ⟨line_of (by rw [S_len]; omega), pick _ _ (by decide +kernel) (by decide +kernel) (by decide +kernel) fun ch H' hb hc S' b' => ⟨_, rfl, ?_⟩⟩
      have hc : ¬ lod ch := by
        have e : ((Str.ofString " \n!.:/_-~{[(@\"'&|").cps.toList.all fun c => decide (¬ lod c)) = true := by decide +kernel
        exact of_decide_eq_true (List.all_eq_true.mp e ch hc)
      have h1 := lt k
      have h2 := ld (k + 1)
      simp only [e0, e1, show Str.ofString "a" = S [97] by decide +kernel, S_app, S_len, List.length_append, List.length_singleton]
      exact ⟨line_of (by omega), line_of (by omega), line_of (by omega), line_of (by omega), ret H' _ S' b' (nm_has (c := ch) (by simp) hc) (by rw [List.length_append, List.length_append, List.length_append, List.length_singleton, List.length_singleton]; omega) (low_app (low_app (low_app (low_tk Ll) (low_one hb)) (low_dr Ll)) (by decide))⟩
    have sp : ∀ ch, ch ∈ (Str.ofString " \n").cps.toList → ¬ lod ch := fun ch hc => by
      have e : (Str.ofString " \n").cps.toList = [32, 10] := by decide +kernel
      rw [e] at hc
      simp only [List.mem_cons, List.not_mem_nil, or_false] at hc
      unfold lod
      omega
    walk_at "st"
    refine ite2 (fun _ => ?_) (fun _ => ?_)
    · refine ⟨line_of (by rw [S_len]; omega), pick _ _ (by decide +kernel) (by decide +kernel) (by decide +kernel) fun ch H' hb hc S' b' => ⟨_, rfl, ?_⟩⟩
      have h1 := lt 5
      rw [e5, S_app, S_len, S_len]
      exact ⟨line_of (by simp <;> omega), ret H' _ S' b' (nm_has (c := ch) (by simp) (sp ch hc)) (by rw [List.length_append]; simp <;> omega) (low_app (low_tk Ll) (low_one hb))⟩
    walk_at "st"
    refine ite2 (fun _ => ?_) (fun _ => ?_)
    · refine pick _ _ (by decide +kernel) (by decide +kernel) (by decide +kernel) fun ch H' hb hc S' b' => ⟨line_of (by rw [S_len]; omega), _, rfl, ?_⟩
      have h1 := lt 5
      rw [e5, S_app, S_len, S_len]
      exact ⟨line_of (by simp <;> omega), ret H' _ S' b' (nm_has (c := ch) (by simp) (sp ch hc)) (by rw [List.length_append]; simp <;> omega) (low_app (low_one hb) (low_tk Ll))⟩
    walk_at "st"
    refine ite2 (fun _ => ?_) (fun _ => ?_)
    · rw [S_len, mul7 (nm_ne hn)]
      have hf : (List.replicate 7 l).flatten.length = 7 * l.length := by simp <;> omega
      exact ⟨6, hl, 7, by decide, by decide, by decide, by decide, ret H3 _ S3 (fun _ _ _ h => h) (nm_long (by omega)) (by omega) (low_fl Ll 7)⟩
    walk_at "rt"
    refine pick _ _ (by decide +kernel) (by decide +kernel) (by decide +kernel) fun ch H' hb hc S' b' => ret H' [ch] S' b' (nm_head ?_) (by simp) (low_one hb)
    have := (digm ch).mp hc
    unfold low
    omega
end
end K01
namespace K01
open PySem PySem.Spec PyProof.Rows L2 TL HotExc Tw WX
local macro_rules | `(tactic| walk_at "rd") => `(tactic| simp only [start1, wipe, isR, isBool, isInt, isStr, isLst, isTup, tAsg, gName, gSub, tVar, tC, tOp, tUn, tTest, tIfS, tRet, tRetN, tDrop, tB, tAnd, tOr, tNot, tAndV, tOrV, tNotV, tIf, tCB, tCons, tNil, tNext, tCall, tBM, tTup, tLst, rU, rInW, rNinW, Int.reduceNeg, tG, tG2, sP, tFldC, sFldC, tProp, tMeth, tMake, rOwnC, rLenO, rIsC, rNoT, tAddT, tSAddK, rSAddK, rSInK, rSet0K, rSet0T, rMinS, rMaxS, rSortedQ, rSortedT, rEqD, rNeD, rIxD, dcL_eq, dcZ_eq, lcO_eq, forE_eq, forT_eq, lcS_eq, ItX.rIterN, iOwn, List.append_nil, tDisp, tPairs, tCallS, tCallSD, tCallT, StX.tStar, tCallK, tCallKS, rTupOf, tDrop, rI0, rI, rEq, rNe, scal, forR_eq, forR2_eq, forS_eq, forL_eq, lcT_eq, lcRT_eq, lcS_eq, rLenX, rLenS, rListOf, tRevL, rMulS, rRepL, rCatL, rSumN, rMaxN, tBM0, rPop, tAug, ipI,  tPart, tNoPart, CwR.tReplC, rAllK, rInSg, rNinSg, sgn_inj, rAddS, rInSt, tChain, tM1, tM0, rSplitN, rJoinN, exists_eq, rIntI, rIntB, rIntS, rStrI, rAbs, rOrd, rMin, rMax, rIxL, rIxX, rSetL, rAppend, rIxS, rSlS, rSlL, tSl, List.map_cons, List.map_nil, List.replicate_succ, List.replicate_zero, List.length_cons, List.length_nil, Nat.reduceSub, Nat.reduceAdd, Nat.zero_add, Nat.sub_self, List.getElem?_cons_zero, List.getElem?_cons_succ, List.set_cons_zero, List.set_cons_succ, List.append_nil, List.nil_append, List.cons_append, Option.some.injEq, not_true_eq_false, reduceCtorEq, exists_eq_left', exists_eq_left, exists_eq', exists_and_left, exists_and_right, V.int.injEq, V.str.injEq, V.bl.injEq, V.ref.injEq, List.cons.injEq, and_true, true_and, and_assoc, decide_eq_true_eq, Bool.not_eq_true', decide_eq_false_iff_not, ite_true, ite_false, if_true, if_false, Bool.not_true, Bool.not_false, Bool.false_eq_true, eq_self_iff_true, reduceIte, ne_eq, Int.reduceEq, not_false_eq_true])
local macro_rules | `(tactic| walk_at "rt") => `(tactic| try walk_at "rd")
local macro_rules | `(tactic| walk_at "st") => `(tactic| (walk_at "rt"; refine r_seq ?_; walk_at "rt"))
local macro_rules | `(tactic| walk_at "hp") => `(tactic| first | assumption | exact upd_same | (rw [upd_ne (by assumption)]; walk_at "hp"))
local macro_rules | `(tactic| walk_at "ex1") => `(tactic| ((with_reducible refine Exists.intro ?w (And.intro ?hx ?_)); (case hx => first | exact sq_of (by walk_at "hp") | exact .inl (sq_of (by walk_at "hp")) | exact rfl | (show _ = some (HO.lst _); walk_at "hp"))))
local macro_rules | `(tactic| walk_at "ex") => `(tactic| repeat (first | walk_at "ex1" | walk_at "rd"))
abbrev s_odd : Stmt := topS 67
theorem sc_odd : FnScope ["store", "places", "kind", "odd"] ["store", "places"] (defScope s_odd) := ⟨rfl, rfl, rfl, by decide +kernel, rfl, by decide +kernel, by decide +kernel⟩
abbrev s_withodd : Stmt := topS 68
theorem sc_withodd : FnScope ["store", "places", "row", "found", "k"] ["store", "places", "row"] (defScope s_withodd) := ⟨rfl, rfl, rfl, by decide +kernel, rfl, by decide +kernel, by decide +kernel⟩
/-- a short text that is none of these -/
def spOdd : Sp := fun vs H Q _ => ∃ (a c p : Addr) (ws : List Str), vs = [.ref a, .ref p] ∧ StoreAt H a c ∧ H p = some (.lst (ws.map V.str)) ∧ ws ≠ [] ∧ ws.length < 60 ∧ (∀ z ∈ ws, nm (tl z)) ∧ Drawn H a c (fun v => ∃ z : Str, v = .str z ∧ z ∉ ws ∧ z.length ≤ 60 ∧ PyData.strOk z = true) Q
def spWithOdd : Sp := fun vs H Q _ => ∃ (a c p r : Addr) (ws zs : List Str), vs = [.ref a, .ref p, .ref r] ∧ StoreAt H a c ∧ H p = some (.lst (ws.map V.str)) ∧ H r = some (.lst (zs.map V.str)) ∧ ws ≠ [] ∧ ws.length < 60 ∧ (∀ z ∈ ws, nm (tl z)) ∧ zs.length ≤ 90 ∧ (∀ z ∈ zs, z.length ≤ 60) ∧
  ∀ q ys H', StoreAt H' a c → But a H H' → H q = none → H' q = some (.lst ((ys : List Str).map V.str)) → (∃ y ∈ ys, y ∉ ws) → (∀ y ∈ ys, y.length ≤ 60) → ys.length ≤ zs.length + 2 → Q (.ref q) H'
theorem atI_lastO (xs : List V) (y : V) : atI (xs ++ [y]) (-1) = some y := by
  unfold atI ixN
  rw [List.length_append]
  simp
  rw [if_pos (by omega), show (-1 + ((xs.length : Int) + 1)).toNat = xs.length by omega]
  simp
section
variable {P : Program} {w : World} {K : PySem.W.Frag} {mg : Str → Option Value} {base : Heap}
theorem ok_odd {f f_take f_stranger f_badname f_pick : Addr} {fd fd_take fd_stranger fd_badname fd_pick : FuncData} (B : Bi mg) (D : Dn K mg "_law_odd" s_odd ["store", "places"] f fd) (D_take : Dn K mg "_law_take" s_take ["store", "many"] f_take fd_take) (D_stranger : Dn K mg "_law_stranger" s_stranger ["store", "taken"] f_stranger fd_stranger) (D_badname : Dn K mg "_law_bad_name" s_badname ["store"] f_badname fd_badname) (D_pick : Dn K mg "_law_pick" s_pick ["store", "row"] f_pick fd_pick)
    (G_take : FnOk P w K mg base CX0 2 f_take fd_take ["store", "many"] spTake) (G_stranger : FnOk P w K mg base CX0 6 f_stranger fd_stranger ["store", "taken"] spStranger) (G_badname : FnOk P w K mg base CX0 6 f_badname fd_badname ["store"] spBadName) (G_pickL : FnOk P w K mg base CX0 3 f_pick fd_pick ["store", "row"] spPickL) : FnOk P w K mg base CX0 7 f fd ["store", "places"] spOdd := by
  refine D.F.ok sc_odd (fun vs H Q E h => ?_) (fun cdv A outer s H vs Q E hr h => ?_)
  · obtain ⟨a, c, p, ws, rfl, _⟩ := h
    rfl
  · obtain ⟨a, c, p, ws, rfl, S0, hp, hne, hl, hnm, q⟩ := h
    refine ⟨_, (pss_cons (ps_set (i := 2) sc_odd.nd rfl (.inl rfl) (pe_call G_take (hr.mono (by omega)) (by rfl) D_take.g D_take.F.kp D_take.b .nil pass0 (pa_cons (pv 0) (pa_cons pe_int pa_nil))))
      (pss_cons (ps_if (pt_cmpR op_eq (pv 2) pe_int (nomark _)) (pss_one (ps_ret (pe_call G_stranger (hr.mono (by omega)) (by rfl) D_stranger.g D_stranger.F.kp D_stranger.b .nil pass0 (pa_cons (pv 0) (pa_cons (pv 1) pa_nil))))) pss_nil)
      (pss_cons (ps_if (pt_cmpR op_eq (pv 2) pe_int (nomark _)) (pss_one (ps_ret (pe_call G_badname (hr.mono (by omega)) (by rfl) D_badname.g D_badname.F.kp D_badname.b .nil pass0 (pa_cons (pv 0) pa_nil)))) pss_nil)
      (pss_cons (ps_set (i := 3) sc_odd.nd rfl (.inl rfl) (pe_lst (pa_cons pe_str (pa_cons pe_str (pa_cons (pe_op op_addS (pe_ix (ix_listK (K := K)) (pv 1) pe_int (fun _ _ => rfl)) pe_str) (pa_cons (pe_op op_addS pe_str (pe_ix (ix_listK (K := K)) (pv 1) (pe_un un_neg pe_int) (fun _ _ => rfl))) (pa_cons (pe_op op_addS (pe_op op_addS (pe_ix (ix_listK (K := K)) (pv 1) pe_int (fun _ _ => rfl)) pe_str) (pe_ix (ix_listK (K := K)) (pv 1) (pe_un un_neg pe_int) (fun _ _ => rfl))) (pa_cons (pe_op op_addS (pe_ix (ix_listK (K := K)) (pv 1) pe_int (fun _ _ => rfl)) pe_str) pa_nil))))))))
      (pss_one (ps_ret (pe_call G_pickL (hr.mono (by omega)) (by rfl) D_pick.g D_pick.F.kp D_pick.b .nil pass0 (pa_cons (pv 0) (pa_cons (pv 3) pa_nil))))))))), ?_⟩
    have bad : ∀ z : Str, ¬ nm (tl z) → z ∉ ws := fun z h m => h (hnm z m)
    walk_at "st"
    refine ⟨a, c, _, rfl, S0, by decide, fun v H1 S1 b1 ⟨kind, e, k0, k1⟩ => ?_⟩
    subst e
    have hp1 := b1 _ _ (S0.nS hp) hp
    walk_at "st"
    refine ite2 (fun _ => ⟨a, c, p, ws, rfl, S1, hp1, hl, hnm, fun v H2 S2 b2 ⟨z, e, h1, h2⟩ => q v H2 S2 (b1.trans b2) ⟨z, e, h2, by have := okd_len (.inr h1); rw [len_tl]; omega, low_ok.mpr (low_nm h1)⟩⟩) (fun _ => ?_)
    walk_at "st"
    refine ite2 (fun _ => ⟨a, c, rfl, S1, fun v H2 S2 b2 ⟨z, e, h1, h2, h3⟩ => q v H2 S2 (b1.trans b2) ⟨z, e, bad z h1, h2, h3⟩⟩) (fun _ => ?_)
    have hpos := List.length_pos_iff.mpr hne
    have g0 := List.getElem?_eq_getElem hpos
    generalize hx : ws[0] = x at g0
    have x1 := hnm x (List.mem_of_getElem? g0)
    have xl := okd_len (.inr x1)
    obtain ⟨y, hy⟩ : ∃ y, ws.getLast? = some y := by
      cases e : ws.getLast? with
      | none => exact absurd (List.getLast?_eq_none_iff.mp e) hne
      | some y => exact ⟨y, rfl⟩
    have y1 := hnm y (List.mem_of_getLast? hy)
    have yl := okd_len (.inr y1)
    have a0 : atI (ws.map V.str) 0 = some (.str x) := atI_nat (j := 0) (by rw [List.getElem?_map, g0]; rfl)
    have al : atI (ws.map V.str) (-1) = some (.str y) := by
      obtain ⟨us, e⟩ := List.getLast?_eq_some_iff.mp hy
      rw [e, List.map_append]
      exact atI_lastO _ _
    have hs := sq_of (K := K) hp1
    have sp1 : Str.ofString " " = S [32] := by decide +kernel
    have nl1 : Str.ofString "\n" = S [10] := by decide +kernel
    have da1 : Str.ofString "-" = S [45] := by decide +kernel
    have xe : x = S (tl x) := (S_tl x).symm
    have ye : y = S (tl y) := (S_tl y).symm
    generalize tl x = lx at xe x1 xl
    generalize tl y = ly at ye y1 yl
    subst xe ye
    walk_at "st"
    refine ⟨_, hs, _, a0, _, rfl, ?_, _, hs, _, al, _, rfl, ?_, _, hs, _, a0, _, rfl, ?_, _, hs, _, al, _, rfl, ?_, _, hs, _, a0, _, rfl, ?_, by rw [PySem.sizeLine_eq]; decide, fun t nt => ?_⟩
    · simp only [sp1, S_len, List.length_singleton]
      exact line_of (by omega)
    · simp only [nl1, S_len, List.length_singleton]
      exact line_of (by omega)
    · simp only [sp1, S_len, List.length_singleton]
      exact line_of (by omega)
    · simp only [sp1, S_app, S_len, List.length_append, List.length_singleton]
      exact line_of (by omega)
    · simp only [da1, S_len, List.length_singleton]
      exact line_of (by omega)
    simp only [sp1, nl1, da1, S_emp, S_app]
    have kt := Keeps.new (x := .lst [.str (S []), .str (S [45]), .str (S (lx ++ [32])), .str (S ([10] ++ ly)), .str (S (lx ++ [32] ++ ly)), .str (S (lx ++ [45]))]) nt
    walk_at "rt"
    refine ⟨a, c, t, _, rfl, S1.new nt, upd_same, S1.ne1 nt, by simp, by simp, fun v H2 S2 b2 hv => ?_⟩
    have done : ∀ l : List Nat, v = .str (S l) → ¬ nm l → l.length ≤ 60 → Low l → Q v H2 := fun l e h1 h2 h3 => q v H2 S2 ((b1.trans (Keeps.but kt)).trans b2) ⟨S l, e, bad _ (by rw [tl_S]; exact h1), by rw [S_len]; exact h2, low_ok.mpr (by rw [tl_S]; exact h3)⟩
    have Lx := low_nm x1
    have Ly := low_nm y1
    simp only [List.mem_cons, List.not_mem_nil, or_false] at hv
    have no : ∀ {l : List Nat} (c : Nat), c ∈ l → c = 32 ∨ c = 10 ∨ c = 45 → ¬ nm l := fun c hc h => nm_has hc (by unfold lod; omega)
    rcases hv with e | e | e | e | e | e
    · exact done _ e (fun h => h) (by simp) low_nil
    · exact done _ e (no 45 (by simp) (by omega)) (by simp) (by decide)
    · exact done _ e (no 32 (by simp) (by omega)) (by simp; omega) (low_app (b := [32]) Lx (by decide))
    · exact done _ e (no 10 (by simp) (by omega)) (by simp; omega) (low_app (a := [10]) (by decide) Ly)
    · exact done _ e (no 32 (by simp) (by omega)) (by simp; omega) (low_app (low_app (b := [32]) Lx (by decide)) Ly)
    · exact done _ e (no 45 (by simp) (by omega)) (by simp; omega) (low_app Lx (by decide))
theorem ok_withodd {f f_take f_odd : Addr} {fd fd_take fd_odd : FuncData} (B : Bi mg) (D : Dn K mg "_law_with_odd" s_withodd ["store", "places", "row"] f fd) (D_take : Dn K mg "_law_take" s_take ["store", "many"] f_take fd_take) (D_odd : Dn K mg "_law_odd" s_odd ["store", "places"] f_odd fd_odd)
    (G_take : FnOk P w K mg base CX0 2 f_take fd_take ["store", "many"] spTake) (G_odd : FnOk P w K mg base CX0 7 f_odd fd_odd ["store", "places"] spOdd) : FnOk P w K mg base CX0 8 f fd ["store", "places", "row"] spWithOdd := by
  refine D.F.ok sc_withodd (fun vs H Q E h => ?_) (fun cdv A outer s H vs Q E hr h => ?_)
  · obtain ⟨a, c, p, r, ws, zs, rfl, _⟩ := h
    rfl
  · obtain ⟨a, c, p, r, ws, zs, rfl, S0, hp, hr0, hne, hl, hnm, hzl, hzs, q⟩ := h
    refine ⟨_, (pss_cons (ps_set (i := 3) sc_withodd.nd rfl (.inl rfl) (pe_callTy (call_listK (K := K)) (by rfl) B.list_ (by decide +kernel) (pa_cons (pv 2) pa_nil)))
      (pss_cons (ps_for PassesOwn.never rfl (pi_range1 (by rfl) B.range (pa_cons (pe_op op_add pe_int (pe_call G_take (hr.mono (by omega)) (by rfl) D_take.g D_take.F.kp D_take.b .nil pass0 (pa_cons (pv 0) (pa_cons pe_int pa_nil)))) pa_nil)) (pg_name (i := 4) sc_withodd.nd rfl (.inl rfl)) (pss_one (ps_expr (pe_bm PySem.F.plainAttrs_list PySem.F.slot_list_insert PySem.F.type_list_insert mt_insert (pv 3) (pa_cons (pe_call G_take (hr.mono (by omega)) (by rfl) D_take.g D_take.F.kp D_take.b .nil pass0 (pa_cons (pv 0) (pa_cons (pe_op op_add (pe_callB (call_lenXK (K := K)) (by rfl) B.len PySem.boot_len (pa_cons (pv 3) pa_nil)) pe_int) pa_nil))) (pa_cons (pe_call G_odd (hr.mono (by omega)) (by rfl) D_odd.g D_odd.F.kp D_odd.b .nil pass0 (pa_cons (pv 0) (pa_cons (pv 1) pa_nil))) pa_nil))))))
      (pss_one (ps_ret (pv 3))))), ?_⟩
    walk_at "st"
    refine ⟨_, .inl (sq_of hr0), fun fo nfo => ?_⟩
    have k1 : Keeps H (L2.upd H fo (.lst (zs.map V.str))) := Keeps.new nfo
    have hf1 : L2.upd H fo (.lst (zs.map V.str)) fo = some (.lst (zs.map V.str)) := upd_same
    have S1 := S0.new (o := .lst (zs.map V.str)) nfo
    generalize L2.upd H fo (.lst (zs.map V.str)) = H1 at *
    walk_at "st"
    refine ⟨a, c, _, rfl, S1, by decide, fun v H2 S2 b2 ⟨mm, e, m0, m1⟩ => ⟨_, e, by omega, by omega, ?_⟩⟩
    have b02 := (Keeps.but (a := a) k1).trans b2
    have hf2 := b2 _ _ (S1.nS hf1) hf1
    refine r_range (fun i σ H' => (∃ x, σ = [some (.ref a), some (.ref p), some (.ref r), some (.ref fo), x]) ∧ StoreAt H' a c ∧ But a H H' ∧ ∃ ys : List Str, H' fo = some (.lst (ys.map V.str)) ∧ (1 ≤ i → ∃ y ∈ ys, y ∉ ws) ∧ (∀ y ∈ ys, y.length ≤ 60) ∧ ys.length = zs.length + i) ⟨⟨_, rfl⟩, S2, b02, zs, hf2, fun h => absurd h (by decide), hzs, rfl⟩ ?_ ?_
    · rintro i σ H3 hi ⟨⟨x, rfl⟩, S3, b3, ys, hf3, _, hy, hyl⟩ N kk
      have hi : i < 2 := by omega
      walk_at "rt"
      refine ⟨.inl ⟨rfl, _, sq_of hf3⟩, _, .inl (sq_of hf3), a, c, _, rfl, S3, by rw [List.length_map]; omega, fun v H4 S4 b4 ⟨at_, e, t0, t1⟩ => ?_⟩
      subst e
      rw [List.length_map] at t1
      have hf4 := b4 _ _ (S3.nS hf3) hf3
      have hp4 := (b3.trans b4) _ _ (S0.nS hp) hp
      refine ⟨a, c, p, ws, rfl, S4, hp4, hne, hl, hnm, fun v H5 S5 b5 ⟨z, e, h1, h2, _⟩ => ?_⟩
      subst e
      have hf5 := b5 _ _ (S4.nS hf4) hf4
      refine ⟨_, _, rfl, hf5, size_ok (by rw [List.length_map]; omega), t0, by omega, kk _ _ ⟨⟨_, rfl⟩, S5.put (S5.nS hf5) (S0.ne2 nfo), fun b o hb e => ?_, ys.take at_.toNat ++ [z] ++ ys.drop at_.toNat, ?_, fun _ => ⟨z, by simp, h1⟩, fun x hx => ?_, ?_⟩⟩
      · rw [upd_ne (fun z => by rw [z, nfo] at e; cases e)]
        exact (b3.trans b4).trans b5 b o hb e
      · rw [upd_same, List.map_append, List.map_append, List.map_take, List.map_drop]
        rfl
      · rw [List.mem_append, List.mem_append] at hx
        rcases hx with (hx | hx) | hx
        · exact hy x (List.mem_of_mem_take hx)
        · rw [List.mem_singleton.mp hx]
          exact h2
        · exact hy x (List.mem_of_mem_drop hx)
      · rw [List.length_append, List.length_append, List.length_take, List.length_drop, List.length_singleton]
        omega
    · rintro σ H3 ⟨⟨x, rfl⟩, S3, b3, ys, hf3, hex, hy, hyl⟩
      walk_at "rt"
      exact q fo ys H3 S3 b3 nfo hf3 (hex (by omega)) hy (by omega)
end
end K01
namespace K01
open PySem PySem.Spec PyProof.Rows L2 TL HotExc Tw WX
local macro_rules | `(tactic| walk_at "rd") => `(tactic| simp only [start1, wipe, isR, isBool, isInt, isStr, isLst, isTup, tAsg, gName, gSub, tVar, tC, tOp, tUn, tTest, tIfS, tRet, tRetN, tDrop, tB, tAnd, tOr, tNot, tAndV, tOrV, tNotV, tIf, tCB, tCons, tNil, tNext, tCall, tBM, tTup, tLst, rU, rInW, rNinW, Int.reduceNeg, tG, tG2, sP, tFldC, sFldC, tProp, tMeth, tMake, rOwnC, rLenO, rIsC, rNoT, tAddT, tSAddK, rSAddK, rSInK, rSet0K, rSet0T, rMinS, rMaxS, rSortedQ, rSortedT, rEqD, rNeD, rIxD, dcL_eq, dcZ_eq, lcO_eq, forE_eq, forT_eq, lcS_eq, ItX.rIterN, iOwn, List.append_nil, tDisp, tPairs, tCallS, tCallSD, tCallT, StX.tStar, tCallK, tCallKS, rTupOf, tDrop, rI0, rI, rEq, rNe, scal, forR_eq, forR2_eq, forS_eq, forL_eq, lcT_eq, lcRT_eq, lcS_eq, rLenX, rLenS, rListOf, tRevL, rMulS, rRepL, rCatL, rSumN, rMaxN, tBM0, rPop, tAug, ipI,  tPart, tNoPart, CwR.tReplC, rAllK, rInSg, rNinSg, sgn_inj, rAddS, rInSt, tChain, tM1, tM0, rSplitN, rJoinN, exists_eq, rIntI, rIntB, rIntS, rStrI, rAbs, rOrd, rMin, rMax, rIxL, rIxX, rSetL, rAppend, rIxS, rSlS, rSlL, tSl, List.map_cons, List.map_nil, List.replicate_succ, List.replicate_zero, List.length_cons, List.length_nil, Nat.reduceSub, Nat.reduceAdd, Nat.zero_add, Nat.sub_self, List.getElem?_cons_zero, List.getElem?_cons_succ, List.set_cons_zero, List.set_cons_succ, List.append_nil, List.nil_append, List.cons_append, Option.some.injEq, not_true_eq_false, reduceCtorEq, exists_eq_left', exists_eq_left, exists_eq', exists_and_left, exists_and_right, V.int.injEq, V.str.injEq, V.bl.injEq, V.ref.injEq, List.cons.injEq, and_true, true_and, and_assoc, decide_eq_true_eq, Bool.not_eq_true', decide_eq_false_iff_not, ite_true, ite_false, if_true, if_false, Bool.not_true, Bool.not_false, Bool.false_eq_true, eq_self_iff_true, reduceIte, ne_eq, Int.reduceEq, not_false_eq_true])
local macro_rules | `(tactic| walk_at "rt") => `(tactic| try walk_at "rd")
local macro_rules | `(tactic| walk_at "st") => `(tactic| (walk_at "rt"; refine r_seq ?_; walk_at "rt"))
local macro_rules | `(tactic| walk_at "hp") => `(tactic| first | assumption | exact upd_same | (rw [upd_ne (by assumption)]; walk_at "hp"))
local macro_rules | `(tactic| walk_at "ex1") => `(tactic| ((with_reducible refine Exists.intro ?w (And.intro ?hx ?_)); (case hx => first | exact sq_of (by walk_at "hp") | exact .inl (sq_of (by walk_at "hp")) | exact rfl | (show _ = some (HO.lst _); walk_at "hp"))))
local macro_rules | `(tactic| walk_at "ex") => `(tactic| repeat (first | walk_at "ex1" | walk_at "rd"))

abbrev s_border : Stmt := topS 62
theorem sc_border : FnScope ["web", "within", "place", "other"] ["web", "within"] (defScope s_border) := ⟨rfl, rfl, rfl, by decide +kernel, rfl, by decide +kernel, by decide +kernel⟩
abbrev s_within : Stmt := topS 63
theorem sc_within : FnScope ["store", "web", "found", "place"] ["store", "web"] (defScope s_within) := ⟨rfl, rfl, rfl, by decide +kernel, rfl, by decide +kernel, by decide +kernel⟩
/-! ### a comprehension in a comprehension -/
def rl (scope sc : Scope) : Scope := { scope with names := scope.names.map fun (n, k) => if (k == .free && sc.kind == .function && sc.names.lookup n == some .cell) then (n, .cell) else (n, k) }
theorem blk_nest {N : List Str} {own : List (Str × Nat)} {inner outer sc : Scope} {env : Env} (e : env.scope = sc) (h : blkC N (rl outer sc) inner own = true) : blkC N (relabel outer env) inner own = true := by
  subst e
  exact h
theorem call_anyK {X : Cx} {K : PySem.W.Frag} (h : X.K = K := by rfl) (hc : X.calm = true := by rfl) : CallR X (.builtin "any") (fun vs H Q => ∃ a, vs = [V.ref a] ∧ ∃ bs : List Bool, SqL K H a (bs.map V.bl) ∧ Q (.bl (bs.any id)) H) := callR_mono (h ▸ cr_any hc) fun _ _ _ ⟨a, e, bs, h1, q⟩ => ⟨a, bs, e, h1, q⟩
/-- the places outside of a row that are tied to one of it -/
def bord (Ps : List Str) (T : List (Str × Str)) (ws : List Str) : List Str := Ps.filter fun x => decide (x ∉ ws) && (sortS (nears T x)).any fun y => decide (y ∈ ws)
theorem filter_snoc {α : Type} {p : α → Bool} {l : List α} {i : Nat} {x : α} (h : l[i]? = some x) : (l.take (i + 1)).filter p = (l.take i).filter p ++ if p x = true then [x] else [] := by
  rw [take_snoc h, List.filter_append]
  by_cases e : p x = true
  · rw [if_pos e]
    simp [e]
  · rw [if_neg e]
    simp [e]
def spWeb : Sp := fun vs H Q _ => ∃ (a c : Addr) (lo hi : Int), vs = [.ref a, .int lo, .int hi] ∧ StoreAt H a c ∧ 1 ≤ lo ∧ lo ≤ hi ∧ hi ≤ 20 ∧ ∀ r Ps T H', StoreAt H' a c → But a H H' → H r = none → LW H' r Ps T → Wok Ps T → Q (.ref r) H'
def spBorder : Sp := fun vs H Q _ => ∃ (r p : Addr) (Ps : List Str) (T : List (Str × Str)) (ws : List Str), vs = [.ref r, .ref p] ∧ LW H r Ps T ∧ Ps.length ≤ 20 ∧ T.length ≤ 60 ∧ H p = some (.lst (ws.map V.str)) ∧ ∀ q H', Keeps H H' → H q = none → H' q = some (.lst ((bord Ps T ws).map V.str)) → Q (.ref q) H'
def spWithin : Sp := fun vs H Q _ => ∃ (a c r : Addr) (Ps : List Str) (T : List (Str × Str)), vs = [.ref a, .ref r] ∧ StoreAt H a c ∧ LW H r Ps T ∧ Ps.length ≤ 20 ∧ T.length ≤ 60 ∧
  ∀ q ys H', StoreAt H' a c → But a H H' → H q = none → H' q = some (.lst ((ys : List Str).map V.str)) → (∀ y ∈ ys, y ∈ Ps) → ys.length ≤ 60 → Q (.ref q) H'
section
variable {P : Program} {w : World} {K : PySem.W.Frag} {mg : Str → Option Value} {base : Heap}
theorem ok_border {f : Addr} {fd : FuncData} (B : Bi mg) (B_any : mg "any" = none) (D : Dn K mg "_law_border" s_border ["web", "within"] f fd) : FnOk P w K mg base CX0 1 f fd ["web", "within"] spBorder := by
  refine D.F.ok sc_border (fun vs H Q E h => ?_) (fun cdv A outer s H vs Q E hr h => ?_)
  · obtain ⟨r, p, Ps, T, ws, rfl, _⟩ := h
    rfl
  · obtain ⟨r, p, Ps, T, ws, rfl, ⟨pa, ta, ⟨nd, hr0, hnd⟩, hpa, _⟩, h20, h60, hp, q⟩ := h
    refine ⟨_, (pss_one (ps_ret (pe_lc (own := [("place", 2)]) (g := gName 2) (by rfl) sc_border.nd (pi_listK (K := K) (pe_ix (ix_sxK (K := K)) (pv 0) pe_int (fun _ _ => rfl))) (blkOk_by (own := [("place", 2)]) (N := ["web", "within", "place", "other"]) (sc := defScope s_border) (by decide +kernel)) (fun _ _ _ _ _ => pg_name (i := 2) sc_border.nd rfl (Or.inl rfl)) (fun _ _ _ _ _ => (pts_one (PW.pt (pw_and (pt_cmpR (op_ninW (K := K)) (pv 2) (pv 1) (by rfl)) (pw_and1 (pt_val (pe_callB (call_anyK (K := K)) (by rfl) B_any (by decide +kernel) (pa_cons (pe_lc (own := [("other", 3)]) (g := gName 3) (tt := tYes) (by rfl) sc_border.nd (pi_listK (K := K) (pe_gS (hu_of hr) (pe_ix (ix_sxK (K := K)) (pv 0) pe_int (fun _ _ => rfl)) (pv 2) (fun _ _ => rfl))) (blkOk_by (own := [("other", 3)]) (N := ["web", "within", "place", "other"]) (sc := _) (by dsimp only [Cx.blk, compEnvC]; exact blk_nest (sc := defScope s_border) rfl (by decide +kernel))) (fun _ _ _ _ _ => pg_name (i := 3) sc_border.nd rfl (Or.inl rfl)) (fun _ _ _ _ _ => pts_nil) (fun _ _ _ _ _ => (pe_cmpR (op_inW (K := K)) (pv 3) (pv 1) (by rfl)))) pa_nil)))))))) (fun _ _ _ _ _ => (pv 2))))), ?_⟩
    have web : ∀ H', Keeps H H' → SqL K H' r [.ref pa, .ref ta, .ref nd] ∨ SqT K H' r [.ref pa, .ref ta, .ref nd] := fun H' k => .inr (tup_at (k _ _ hr0))
    walk_at "rt"
    refine ⟨_, web _ (Keeps.refl _), _, rfl, pa, rfl, ⟨_, sq_of hpa⟩, fun Dd nD => ?_⟩
    refine r_lcT (Ps.map V.str) (fun i H' => Keeps H H' ∧ H' Dd = some (.lst ((bord (Ps.take i) T ws).map V.str))) (fun _ => rfl) ⟨Keeps.new nD, upd_same⟩ (fun i H' _ h => sq_of (h.1 _ _ hpa)) ?_ ?_
    · rintro i v H' hx ⟨k, hD⟩ N M kN kM
      obtain ⟨x, h1, rfl⟩ := get_map hx
      have hi := lt_of_get h1
      have fs := filter_snoc (p := fun x => decide (x ∉ ws) && (sortS (nears T x)).any fun y => decide (y ∈ ws)) h1
      have bl : (bord (Ps.take i) T ws).length ≤ 20 := by
        refine Nat.le_trans (List.length_filter_le _ _) ?_
        rw [List.length_take]
        omega
      have yes : ∀ H'', Keeps H' H'' → (x ∉ ws ∧ ((sortS (nears T x)).any fun y => decide (y ∈ ws)) = true) → N (.str x) H'' := fun H'' k' h => kN _ H'' _ (k' _ _ hD) (size_ok (by rw [List.length_map]; omega)) ⟨(k.trans k').put nD, by
        rw [upd_same]
        unfold bord
        rw [fs, if_pos (by simp [h.1, h.2]), List.map_append]
        rfl⟩
      have no : ∀ H'', Keeps H' H'' → ¬ (x ∉ ws ∧ ((sortS (nears T x)).any fun y => decide (y ∈ ws)) = true) → M H'' := fun H'' k' h => kM H'' ⟨k.trans k', by
        unfold bord
        rw [fs, if_neg (by simpa using h), List.append_nil]
        exact k' _ _ hD⟩
      have ne := hnd
      obtain ⟨kvs, hk, hat, _⟩ := hnd
      obtain ⟨l, hv, hl⟩ := hat x (List.mem_of_getElem? h1)
      walk_at "rt"
      refine ⟨ws, .inl (sq_of (k _ _ hp)), ite2 (fun hnot => ?_) (fun h => no H' (Keeps.refl _) (fun z => h z.1))⟩
      have hl' := k _ _ hl
      refine ⟨_, web _ k, _, rfl, nd, rfl, kvs, k _ _ hk, _, hv, l, rfl, ⟨_, sq_of hl'⟩, fun D2 nD2 => ?_⟩
      have nlen : (sortS (nears T x)).length ≤ 120 := by
        have := nears_len T x
        rw [(sortS_pm _).length_eq]
        omega
      generalize sortS (nears T x) = ns at *
      refine r_lcTL (ns.map V.str) (fun j H'' => Keeps H' H'' ∧ H'' D2 = some (.lst (((ns.take j).map fun y => decide (y ∈ ws)).map V.bl))) (fun _ => rfl) ⟨Keeps.new nD2, upd_same⟩ (fun j H'' _ h => sq_of (h.1 _ _ hl')) ?_ ?_
      · rintro j v H'' hx2 ⟨k2, hD2⟩ N2 kN2
        obtain ⟨y, h2, rfl⟩ := get_map hx2
        have hj := lt_of_get h2
        walk_at "rt"
        refine ⟨ws, .inl (sq_of ((k.trans k2) _ _ hp)), kN2 _ H'' _ hD2 (size_ok (by rw [List.length_map, List.length_map, List.length_take]; omega)) ⟨k2.put nD2, ?_⟩⟩
        rw [upd_same, take_snoc h2, List.map_append, List.map_append]
        rfl
      · rintro H'' ⟨k2, hD2⟩
        rw [List.length_map, List.take_length] at hD2
        have ea : (ns.map fun y => decide (y ∈ ws)).any id = ns.any fun y => decide (y ∈ ws) := by rw [List.any_map]; rfl
        refine ⟨_, sq_of hD2, ?_⟩
        rw [ea]
        exact ite2 (fun h => yes H'' k2 ⟨hnot, h⟩) (fun h => no H'' k2 (fun z => h z.2))
    · rintro H' ⟨k, hD⟩
      rw [List.length_map, List.take_length] at hD
      exact q Dd H' k nD hD
theorem ok_within {f f_someagain f_chance f_shuffled f_border : Addr} {fd fd_someagain fd_chance fd_shuffled fd_border : FuncData} (B : Bi mg) (D : Dn K mg "_law_within" s_within ["store", "web"] f fd) (D_someagain : Dn K mg "_law_some_again" s_someagain ["store", "row"] f_someagain fd_someagain) (D_chance : Dn K mg "_law_chance" s_chance ["store", "many"] f_chance fd_chance) (D_shuffled : Dn K mg "_law_shuffled" s_shuffled ["store", "row"] f_shuffled fd_shuffled) (D_border : Dn K mg "_law_border" s_border ["web", "within"] f_border fd_border)
    (G_someagain : FnOk P w K mg base CX0 5 f_someagain fd_someagain ["store", "row"] spSomeA) (G_chance : FnOk P w K mg base CX0 3 f_chance fd_chance ["store", "many"] spChance) (G_shuffled : FnOk P w K mg base CX0 3 f_shuffled fd_shuffled ["store", "row"] (spShuf K)) (G_border : FnOk P w K mg base CX0 1 f_border fd_border ["web", "within"] spBorder) : FnOk P w K mg base CX0 6 f fd ["store", "web"] spWithin := by
  refine D.F.ok sc_within (fun vs H Q E h => ?_) (fun cdv A outer s H vs Q E hr h => ?_)
  · obtain ⟨a, c, r, Ps, T, rfl, _⟩ := h
    rfl
  · obtain ⟨a, c, r, Ps, T, rfl, S0, hw, h20, h60, q⟩ := h
    refine ⟨_, (pss_cons (ps_set (i := 2) sc_within.nd rfl (.inr rfl) (pe_call G_someagain (hr.mono (by omega)) (by rfl) D_someagain.g D_someagain.F.kp D_someagain.b .nil pass0 (pa_cons (pv 0) (pa_cons (pe_ix (ix_sxK (K := K)) (pv 1) pe_int (fun _ _ => rfl)) pa_nil))))
      (C8.pss_cut (ps_if (pt_val (pe_call G_chance (hr.mono (by omega)) (by rfl) D_chance.g D_chance.F.kp D_chance.b .nil pass0 (pa_cons (pv 0) (pa_cons pe_int pa_nil)))) (pss_one (ps_set (i := 2) sc_within.nd rfl (.inr rfl) (pe_call G_shuffled (hr.mono (by omega)) (by rfl) D_shuffled.g D_shuffled.F.kp D_shuffled.b .nil pass0 (pa_cons (pv 0) (pa_cons (pe_op op_catL (pv 2) (pe_lc (own := [("place", 3)]) (g := gName 3) (by rfl) sc_within.nd (pi_listK (K := K) (pe_call G_border (hr.mono (by omega)) (by rfl) D_border.g D_border.F.kp D_border.b .nil pass0 (pa_cons (pv 1) (pa_cons (pv 2) pa_nil)))) (blkOk_by (own := [("place", 3)]) (N := ["store", "web", "found", "place"]) (sc := defScope s_within) (by decide +kernel)) (fun _ _ _ _ _ => pg_name (i := 3) sc_within.nd rfl (Or.inl rfl)) (fun _ _ _ _ _ => (pts_one (pt_cmpR (op_ninW (K := K)) (pv 3) (pv 2) (by rfl)))) (fun _ _ _ _ _ => (pv 3)))) pa_nil))))) pss_nil)
      (pss_one (ps_ret (pv 2))))), ?_⟩
    obtain ⟨pa, ta, ⟨nd, hr0, hnd⟩, hpa, htv⟩ := id hw
    have web : ∀ H', But a H H' → SqL K H' r [.ref pa, .ref ta, .ref nd] ∨ SqT K H' r [.ref pa, .ref ta, .ref nd] := fun H' b => .inr (tup_at (b _ _ (S0.nT hr0) hr0))
    walk_at "st"
    refine ⟨_, web _ (fun _ _ _ h => h), _, rfl, a, c, pa, Ps, rfl, S0, hpa, by omega, fun fo ys H1 S1 b1 nfo hf1 hin hyl => ?_⟩
    walk_at "rt"
    refine r_cut (fun σ H' => ∃ fo, σ = [some (.ref a), some (.ref r), some (.ref fo), none] ∧ StoreAt H' a c ∧ But a H H' ∧ H fo = none ∧ ∃ ys : List Str, H' fo = some (.lst (ys.map V.str)) ∧ (∀ y ∈ ys, y ∈ Ps) ∧ ys.length ≤ 60) (fun N kk => ?_) ?_
    · walk_at "rt"
      refine ⟨a, c, _, rfl, S1, by decide, fun v H2 S2 b2 ⟨bb, e⟩ => ⟨bb, e, ?_⟩⟩
      have hf2 := b2 _ _ (S1.nS hf1) hf1
      cases bb with
      | false =>
        simp only [Bool.false_eq_true, if_false]
        exact kk _ _ ⟨fo, rfl, S2, b1.trans b2, nfo, ys, hf2, hin, by omega⟩
      | true =>
        simp only [if_true]
        walk_at "rt"
        have b02 := b1.trans b2
        refine ⟨r, fo, Ps, T, ys, rfl, hw.but S0 b02, h20, h60, hf2, fun bo H3 k3 nbo hbo => ⟨bo, rfl, ⟨_, sq_of hbo⟩, fun Dd nD => ?_⟩⟩
        have S3 := Keeps.store S2 k3
        have hf3 := k3 _ _ hf2
        have hbl : (bord Ps T ys).length ≤ 20 := Nat.le_trans (List.length_filter_le _ _) h20
        have hbi : ∀ y ∈ bord Ps T ys, y ∈ Ps := fun y hy => (List.mem_filter.mp hy).1
        generalize bord Ps T ys = bs at *
        refine r_lcT (bs.map V.str) (fun i H' => Keeps H3 H' ∧ ∃ us : List Str, H' Dd = some (.lst (us.map V.str)) ∧ us.length ≤ i ∧ ∀ y ∈ us, y ∈ Ps) (fun _ => rfl) ⟨Keeps.new nD, [], upd_same, Nat.le_refl _, fun y h => (by cases h)⟩ (fun i H' _ h => sq_of (h.1 _ _ hbo)) ?_ ?_
        · rintro i v H' hx ⟨k, us, hD, hul, hui⟩ N2 M kN kM
          obtain ⟨x, h1, rfl⟩ := get_map hx
          have hi := lt_of_get h1
          walk_at "rt"
          refine ⟨ys, .inl (sq_of (k _ _ hf3)), ite2 (fun _ => kN _ H' _ hD (size_ok (by rw [List.length_map]; omega)) ⟨k.put nD, us ++ [x], by rw [upd_same, List.map_append]; rfl, by rw [List.length_append]; exact Nat.succ_le_succ hul, fun y hy => ?_⟩) (fun _ => kM H' ⟨k, us, hD, by omega, hui⟩)⟩
          rcases List.mem_append.mp hy with hy | hy
          · exact hui y hy
          · rw [List.mem_singleton.mp hy]
            exact hbi x (List.mem_of_getElem? h1)
        · rintro H4 ⟨k4, us, hD, hul, hui⟩
          rw [List.length_map] at hul
          have S4 := Keeps.store S3 k4
          refine ⟨_, k4 _ _ hf3, _, hD, line_of (by rw [List.length_map, List.length_map]; omega), fun p5 np5 => ?_⟩
          refine ⟨a, c, p5, _, rfl, S4.new np5, upd_same, S4.ne1 np5, by rw [List.length_append, List.length_map, List.length_map]; omega, fun q6 zs H6 S6 b6 nq6 hq6 hpm => ?_⟩
          rw [← List.map_append] at hpm
          obtain ⟨ws, rfl, hws⟩ := perm_strs hpm
          have k34 : Keeps H2 (L2.upd H4 p5 (.lst (ys.map V.str ++ us.map V.str))) := (k3.trans k4).trans (Keeps.new np5)
          have b26 := (Keeps.but (a := a) k34).trans b6
          refine kk _ _ ⟨q6, rfl, S6, b02.trans b26, ?_, ws, hq6, fun y hy => ?_, ?_⟩
          · cases e : H q6 with
            | none => rfl
            | some o =>
              have qa : q6 ≠ a := (S4.new (o := .lst (ys.map V.str ++ us.map V.str)) np5).ne1 nq6
              have := (Keeps.but (a := a) k34) q6 o qa (b02 q6 o qa e)
              rw [nq6] at this
              cases this
          · rcases List.mem_append.mp (hws.mem_iff.mp hy) with h | h
            · exact hin y h
            · exact hui y h
          · rw [hws.length_eq, List.length_append]
            omega
    rintro σ H3 ⟨fo, rfl, S3, b3, nfo, ys, hf3, hin, hyl⟩
    walk_at "rt"
    exact q fo ys H3 S3 b3 nfo hf3 hin hyl
end
end K01
namespace K01
open PySem PySem.Spec PyProof.Rows L2 TL HotExc Tw WX
/-! ### distances in a set of places -/
def Nbr (T : List (Str × Str)) (x y : Str) : Prop := (x, y) ∈ T ∨ (y, x) ∈ T
/-- a walk of n steps from s to x, all of it in W -/
def Rch (T : List (Str × Str)) (W : List Str) (s : Str) : Nat → Str → Prop
  | 0, x => x = s ∧ s ∈ W
  | n + 1, x => x ∈ W ∧ ∃ y, Rch T W s n y ∧ Nbr T y x
def Dst (T : List (Str × Str)) (W : List Str) (s x : Str) (n : Nat) : Prop := Rch T W s n x ∧ ∀ m, Rch T W s m x → n ≤ m
section
variable {T : List (Str × Str)} {W : List Str} {s : Str}
theorem Rch.mem : ∀ {n : Nat} {x : Str}, Rch T W s n x → x ∈ W
  | 0, _, h => h.1 ▸ h.2
  | _ + 1, _, h => h.1
theorem Dst.uniq {x : Str} {n m : Nat} (h : Dst T W s x n) (g : Dst T W s x m) : n = m := Nat.le_antisymm (h.2 _ g.1) (g.2 _ h.1)
theorem Rch.dst {x : Str} : ∀ {n : Nat}, Rch T W s n x → ∃ m, m ≤ n ∧ Dst T W s x m := by
  intro n
  induction n using Nat.strongRecOn with
  | ind n ih =>
    intro h
    by_cases e : ∃ m, m < n ∧ Rch T W s m x
    · obtain ⟨m, hm, g⟩ := e
      obtain ⟨k, hk, d⟩ := ih m hm g
      exact ⟨k, by omega, d⟩
    · exact ⟨n, Nat.le_refl _, h, fun m g => by
        apply Classical.byContradiction
        intro z
        exact e ⟨m, by omega, g⟩⟩
theorem Dst.pred {x : Str} {n : Nat} (h : Dst T W s x (n + 1)) : ∃ y, Dst T W s y n ∧ Nbr T y x := by
  obtain ⟨⟨hx, y, hy, hn⟩, hl⟩ := h
  obtain ⟨m, hm, d⟩ := hy.dst
  have := hl (m + 1) ⟨hx, y, d.1, hn⟩
  have : m = n := by omega
  subst this
  exact ⟨y, d, hn⟩
theorem Dst.row : ∀ {n : Nat} {x : Str}, Dst T W s x n → ∃ L : List Str, L.Nodup ∧ L.length = n + 1 ∧ ∀ y ∈ L, y ∈ W ∧ ∃ m, m ≤ n ∧ Dst T W s y m
  | 0, x, h => ⟨[x], by simp, rfl, fun y hy => by
      rw [List.mem_singleton.mp hy]
      exact ⟨h.1.mem, 0, Nat.le_refl _, h⟩⟩
  | n + 1, x, h => by
    obtain ⟨y, hy, _⟩ := h.pred
    obtain ⟨L, h1, h2, h3⟩ := Dst.row hy
    refine ⟨x :: L, List.nodup_cons.mpr ⟨fun hx => ?_, h1⟩, by rw [List.length_cons, h2], fun z hz => ?_⟩
    · obtain ⟨_, m, hm, d⟩ := h3 x hx
      have := d.uniq h
      omega
    · rcases List.mem_cons.mp hz with rfl | hz
      · exact ⟨h.1.mem, n + 1, Nat.le_refl _, h⟩
      · obtain ⟨a, m, hm, d⟩ := h3 z hz
        exact ⟨a, m, by omega, d⟩
theorem Dst.short {Ps : List Str} (hW : ∀ x ∈ W, x ∈ Ps) {n : Nat} {x : Str} (h : Dst T W s x n) : n < Ps.length := by
  obtain ⟨L, h1, h2, h3⟩ := h.row
  have := nd_len L Ps h1 fun y hy => hW y (h3 y hy).1
  omega
/-- a table of walks -/
def Sound (T : List (Str × Str)) (W : List Str) (s : Str) (d : Str → Option Nat) : Prop := ∀ x v, d x = some v → Rch T W s v x
/-- up to n steps nothing is missing, nothing too long -/
def Upto (T : List (Str × Str)) (W : List Str) (s : Str) (d : Str → Option Nat) (n : Nat) : Prop := ∀ m x, m ≤ n → Rch T W s m x → ∃ u, d x = some u ∧ u ≤ m
def Exact (T : List (Str × Str)) (W : List Str) (s : Str) (d : Str → Option Nat) : Prop := ∀ x v, d x = some v ↔ Dst T W s x v
theorem Exact.of {d : Str → Option Nat} (hs : Sound T W s d) (hu : ∀ n, Upto T W s d n) : Exact T W s d := fun x v => by
  constructor
  · intro h
    refine ⟨hs x v h, fun m hm => ?_⟩
    obtain ⟨u, e, hle⟩ := hu m m x (Nat.le_refl _) hm
    rw [h] at e
    cases e
    exact hle
  · intro h
    obtain ⟨u, e, hle⟩ := hu v v x (Nat.le_refl _) h.1
    have := h.2 u (hs x u e)
    have : u = v := by omega
    rw [← this]
    exact e
/-- nothing is missing when no tie leads on -/
theorem Upto.stable {d : Str → Option Nat} (h0 : s ∈ W → d s = some 0) (hst : ∀ x v y, d x = some v → Nbr T x y → y ∈ W → ∃ u, d y = some u ∧ u ≤ v + 1) : ∀ n, Upto T W s d n := by
  have key : ∀ (m : Nat) (x : Str), Rch T W s m x → ∃ u, d x = some u ∧ u ≤ m := by
    intro m
    induction m with
    | zero =>
      rintro x ⟨rfl, hw⟩
      exact ⟨0, h0 hw, Nat.le_refl _⟩
    | succ m ih =>
      rintro x ⟨hx, y, hy, hn⟩
      obtain ⟨u, e, hu⟩ := ih y hy
      obtain ⟨v, e2, hv⟩ := hst y u x e hn hx
      exact ⟨v, e2, by omega⟩
  exact fun n m x _ h => key m x h
/-- nothing is missing after as many rounds as there are places -/
theorem Upto.all {d : Str → Option Nat} {Ps : List Str} (hW : ∀ x ∈ W, x ∈ Ps) (hu : Upto T W s d Ps.length) : ∀ n, Upto T W s d n := by
  intro n m x _ h
  obtain ⟨k, hk, D⟩ := h.dst
  have := D.short hW
  obtain ⟨u, e, hle⟩ := hu k x (by omega) D.1
  exact ⟨u, e, by omega⟩
theorem Exact.same {d e : Str → Option Nat} (h : Exact T W s d) (g : Exact T W s e) (x : Str) : d x = e x := by
  cases hd : d x with
  | none =>
    cases he : e x with
    | none => rfl
    | some v => rw [(h x v).mpr ((g x v).mp he)] at hd; cases hd
  | some v => exact ((g x v).mpr ((h x v).mp hd)).symm
end
end K01
namespace K01
open PySem PySem.Spec PyProof.Rows L2 TL HotExc Tw WX
/-! ### one round of drawing nearer -/
def setD (d : Str → Option Nat) (y : Str) (v : Nat) : Str → Option Nat := fun x => if x = y then some v else d x
/-- e tells no more of any place than d does, and of as many -/
def Near (d e : Str → Option Nat) : Prop := ∀ x v, d x = some v → ∃ u, e x = some u ∧ u ≤ v
theorem Near.refl (d : Str → Option Nat) : Near d d := fun x v h => ⟨v, h, Nat.le_refl _⟩
theorem Near.trans {a b c : Str → Option Nat} (h : Near a b) (g : Near b c) : Near a c := fun x v e => by
  obtain ⟨u, e1, h1⟩ := h x v e
  obtain ⟨w, e2, h2⟩ := g x u e1
  exact ⟨w, e2, by omega⟩
structure Rel (T : List (Str × Str)) (W : List Str) (s : Str) (d : Str → Option Nat) : Prop where
  so : Sound T W s d
  st : s ∈ W → d s = some 0
theorem Near.set {d : Str → Option Nat} {y : Str} {v : Nat} (h : d y = none ∨ ∃ u, d y = some u ∧ v < u) : Near d (setD d y v) := fun x u e => by
  unfold setD
  by_cases z : x = y
  · subst z
    rw [if_pos rfl]
    rcases h with h | ⟨u', h, hl⟩
    · rw [h] at e; cases e
    · rw [h] at e
      cases e
      exact ⟨v, rfl, by omega⟩
  · rw [if_neg z]
    exact ⟨u, e, Nat.le_refl _⟩
theorem Rel.set {T : List (Str × Str)} {W : List Str} {s x y : Str} {d : Str → Option Nat} {v : Nat} (R : Rel T W s d) (hx : d x = some v) (hn : Nbr T x y) (hy : y ∈ W) (h : d y = none ∨ ∃ u, d y = some u ∧ v + 1 < u) : Rel T W s (setD d y (v + 1)) := by
  refine ⟨fun z u e => ?_, fun hs => ?_⟩
  · unfold setD at e
    by_cases c : z = y
    · rw [if_pos c] at e
      cases e
      rw [c]
      exact ⟨hy, x, R.so x v hx, hn⟩
    · rw [if_neg c] at e
      exact R.so z u e
  · unfold setD
    have h0 := R.st hs
    by_cases c : s = y
    · subst c
      rw [h0] at h
      rcases h with h | ⟨u, h, hl⟩
      · cases h
      · cases h
        omega
    · rw [if_neg c]
      exact h0
/-- the pair x, y has been looked at in this round, which began with d0 -/
def Seen (W : List Str) (d0 d : Str → Option Nat) (x y : Str) : Prop := ∀ v, d0 x = some v → y ∈ W → ∃ u, d y = some u ∧ u ≤ v + 1
theorem Seen.near {W : List Str} {d0 d e : Str → Option Nat} {x y : Str} (h : Seen W d0 d x y) (g : Near d e) : Seen W d0 e x y := fun v h0 hy => by
  obtain ⟨u, e1, h1⟩ := h v h0 hy
  obtain ⟨w, e2, h2⟩ := g y u e1
  exact ⟨w, e2, by omega⟩
theorem Upto.next {T : List (Str × Str)} {W : List Str} {s : Str} {d0 d : Str → Option Nat} {n : Nat} (h : Upto T W s d0 n) (g : Near d0 d) (hs : ∀ x y, Nbr T x y → Seen W d0 d x y) : Upto T W s d (n + 1) := by
  intro m x hm hr
  by_cases c : m ≤ n
  · obtain ⟨u, e, hu⟩ := h m x c hr
    obtain ⟨w, e2, h2⟩ := g x u e
    exact ⟨w, e2, by omega⟩
  · have : m = n + 1 := by omega
    subst this
    obtain ⟨hx, y, hy, hn⟩ := hr
    obtain ⟨u, e, hu⟩ := h n y (Nat.le_refl _) hy
    obtain ⟨w, e2, h2⟩ := hs y x hn u e hx
    exact ⟨w, e2, by omega⟩
theorem Upto.zero {T : List (Str × Str)} {W : List Str} {s : Str} {d : Str → Option Nat} (R : Rel T W s d) : Upto T W s d 0 := by
  intro m x hm hr
  have : m = 0 := by omega
  subst this
  obtain ⟨rfl, hw⟩ := hr
  exact ⟨0, R.st hw, Nat.le_refl _⟩
/-- a round that changes nothing -/
theorem Exact.still {T : List (Str × Str)} {W : List Str} {s : Str} {d : Str → Option Nat} (R : Rel T W s d) (hs : ∀ x y, Nbr T x y → Seen W d d x y) : Exact T W s d := Exact.of R.so (Upto.stable R.st fun x v y h hn hy => hs x y hn v h hy)
def TabD (kvs : List (Key × V)) (d : Str → Option Nat) : Prop := ∀ x, valV kvs (Sum.inr x) = (d x).map fun n : Nat => V.int (n : Int)
theorem TabD.put {kvs : List (Key × V)} {d : Str → Option Nat} (h : TabD kvs d) (y : Str) (v : Nat) : TabD (putK kvs (Sum.inr y) (.int v)) (setD d y v) := fun x => by
  rw [valV_put]
  unfold setD
  by_cases c : x = y
  · rw [if_pos (by rw [c]), if_pos c]
    rfl
  · rw [if_neg (fun z => c (Sum.inr.inj z)), if_neg c]
    exact h x
end K01
namespace K01
open PySem PySem.Spec PyProof.Rows L2 TL HotExc Tw WX
/-! ### a search in breadth -/
theorem setD_ne {d : Str → Option Nat} {x y : Str} {v : Nat} (h : x ≠ y) : setD d y v x = d x := if_neg h
theorem setD_eq {d : Str → Option Nat} {y : Str} {v : Nat} : setD d y v y = some v := if_pos rfl
structure Bfs (T : List (Str × Str)) (W : List Str) (s : Str) (d : Str → Option Nat) (q : List Str) (at_ : Nat) : Prop where
  rel : Rel T W s d
  key : ∀ x v, d x = some v → x ∈ q
  val : ∀ x, x ∈ q → ∃ v, d x = some v
  nd : q.Nodup
  ord : ∀ (i j : Nat) x y u v, i ≤ j → q[i]? = some x → q[j]? = some y → d x = some u → d y = some v → u ≤ v
  spr : ∀ x u, q[at_]? = some x → d x = some u → ∀ y v, d y = some v → v ≤ u + 1
  don : ∀ (i : Nat) x v, i < at_ → q[i]? = some x → d x = some v → ∀ y, Nbr T x y → y ∈ W → ∃ u, d y = some u ∧ u ≤ v + 1
section
variable {T : List (Str × Str)} {W : List Str} {s : Str}
theorem get_snoc {α : Type} {l : List α} {a x : α} {i : Nat} (h : (l ++ [a])[i]? = some x) : (i < l.length ∧ l[i]? = some x) ∨ (i = l.length ∧ x = a) := by
  by_cases hi : i < l.length
  · rw [List.getElem?_append_left hi] at h
    exact .inl ⟨hi, h⟩
  · have hl := lt_of_get h
    rw [List.length_append, List.length_singleton] at hl
    have : i = l.length := by omega
    subst this
    rw [List.getElem?_append_right (Nat.le_refl _), Nat.sub_self] at h
    cases h
    exact .inr ⟨rfl, rfl⟩
theorem Bfs.start (hs : s ∈ W) : Bfs T W s (setD (fun _ => none) s 0) [s] 0 := by
  have e : ∀ x v, setD (fun _ => none) s 0 x = some v → x = s ∧ v = 0 := fun x v h => by
    unfold setD at h
    by_cases c : x = s
    · rw [if_pos c] at h
      cases h
      exact ⟨c, rfl⟩
    · rw [if_neg c] at h
      cases h
  refine ⟨⟨fun x v h => ?_, fun _ => setD_eq⟩, fun x v h => ?_, fun x h => ⟨0, ?_⟩, by simp, fun i j x y u v _ _ _ h1 h2 => ?_, fun x u _ h1 y v h2 => ?_, fun i x v h => absurd h (Nat.not_lt_zero _)⟩
  · obtain ⟨rfl, rfl⟩ := e x v h
    exact ⟨rfl, hs⟩
  · rw [(e x v h).1]
    exact List.mem_singleton.mpr rfl
  · rw [List.mem_singleton.mp h]
    exact setD_eq
  · have := (e x u h1).2
    omega
  · have := (e y v h2).2
    omega
theorem Bfs.add {d : Str → Option Nat} {q : List Str} {n u : Nat} {x y : Str} (B : Bfs T W s d q n) (hx : q[n]? = some x) (hu : d x = some u) (hn : Nbr T x y) (hy : y ∈ W) (h : d y = none) : Bfs T W s (setD d y (u + 1)) (q ++ [y]) n := by
  have hnq : y ∉ q := fun z => by
    obtain ⟨v, e⟩ := B.val y z
    rw [h] at e
    cases e
  have ne : ∀ z, z ∈ q → z ≠ y := fun z hz e => hnq (e ▸ hz)
  have hnl := lt_of_get hx
  have q0 : ∀ (i : Nat) z, i < q.length → (q ++ [y])[i]? = some z → q[i]? = some z ∧ z ≠ y := fun i z hi e => by
    rw [List.getElem?_append_left hi] at e
    exact ⟨e, ne z (List.mem_of_getElem? e)⟩
  have le : ∀ z w, setD d y (u + 1) z = some w → w ≤ u + 1 := fun z w e => by
    by_cases c : z = y
    · rw [c, setD_eq] at e
      cases e
      exact Nat.le_refl _
    · rw [setD_ne c] at e
      exact B.spr x u hx hu z w e
  refine ⟨B.rel.set hu hn hy (.inl h), fun z w e => ?_, fun z hz => ?_, List.nodup_append.mpr ⟨B.nd, by simp, fun a ha b hb e => hnq (by rw [List.mem_singleton.mp hb] at e; exact e ▸ ha)⟩, fun i j a b v w hij e1 e2 h1 h2 => ?_, fun z w e1 h1 a v h2 => ?_, fun i z w hi e1 h1 b hb hbW => ?_⟩
  · by_cases c : z = y
    · rw [c]
      exact List.mem_append_right _ List.mem_cons_self
    · rw [setD_ne c] at e
      exact List.mem_append_left _ (B.key z w e)
  · rcases List.mem_append.mp hz with hz | hz
    · rw [setD_ne (ne z hz)]
      exact B.val z hz
    · rw [List.mem_singleton.mp hz]
      exact ⟨_, setD_eq⟩
  · rcases get_snoc e2 with ⟨hj, e2⟩ | ⟨hj, rfl⟩
    · obtain ⟨e1, na⟩ := q0 i a (by omega) e1
      have nb := ne b (List.mem_of_getElem? e2)
      rw [setD_ne na] at h1
      rw [setD_ne nb] at h2
      exact B.ord i j a b v w hij e1 e2 h1 h2
    · rw [setD_eq] at h2
      cases h2
      exact le a v h1
  · obtain ⟨e1, nz⟩ := q0 n z hnl e1
    rw [hx] at e1
    cases e1
    rw [setD_ne nz, hu] at h1
    cases h1
    exact le a v h2
  · obtain ⟨e1, nz⟩ := q0 i z (by omega) e1
    rw [setD_ne nz] at h1
    obtain ⟨v, e, hv⟩ := B.don i z w hi e1 h1 b hb hbW
    have nb : b ≠ y := fun c => by rw [c, h] at e; cases e
    exact ⟨v, by rw [setD_ne nb]; exact e, hv⟩
theorem Bfs.next {d : Str → Option Nat} {q : List Str} {n u : Nat} {x : Str} (B : Bfs T W s d q n) (hx : q[n]? = some x) (hu : d x = some u) (hall : ∀ y, Nbr T x y → y ∈ W → ∃ w, d y = some w ∧ w ≤ u + 1) : Bfs T W s d q (n + 1) := by
  refine ⟨B.rel, B.key, B.val, B.nd, B.ord, fun z w e1 h1 a v h2 => ?_, fun i z w hi e1 h1 b hb hbW => ?_⟩
  · have := B.spr x u hx hu a v h2
    have := B.ord n (n + 1) x z u w (by omega) hx e1 hu h1
    omega
  · by_cases c : i = n
    · subst c
      rw [hx] at e1
      cases e1
      rw [hu] at h1
      cases h1
      exact hall b hb hbW
    · exact B.don i z w (by omega) e1 h1 b hb hbW
theorem Bfs.exact {d : Str → Option Nat} {q : List Str} {n : Nat} (B : Bfs T W s d q n) (h : q.length ≤ n) : Exact T W s d :=
  Exact.of B.rel.so (Upto.stable B.rel.st fun x v y hv hn hy => by
    obtain ⟨i, hi⟩ := List.mem_iff_getElem?.mp (B.key x v hv)
    exact B.don i x v (by have := lt_of_get hi; omega) hi hv y hn hy)
theorem Bfs.len {d : Str → Option Nat} {q : List Str} {n : Nat} (B : Bfs T W s d q n) : q.length ≤ W.length := nd_len q W B.nd fun x hx => by
  obtain ⟨v, e⟩ := B.val x hx
  exact (B.rel.so x v e).mem
theorem Exact.off (hs : s ∉ W) : Exact T W s (fun _ => none) := Exact.of (fun x v h => by cases h) (Upto.stable (fun h => absurd h hs) fun x v y h => by cases h)
/-- the near places of x are its neighbours -/
theorem nears_nbr (x y : Str) : y ∈ nears T x ↔ Nbr T x y := by
  unfold nears Nbr
  rw [List.mem_flatMap]
  constructor
  · rintro ⟨e, he, h⟩
    rcases List.mem_append.mp h with h | h
    · by_cases c : e.1 = x
      · rw [if_pos c] at h
        rw [List.mem_singleton.mp h, ← c]
        exact .inl he
      · rw [if_neg c] at h
        cases h
    · by_cases c : e.2 = x
      · rw [if_pos c] at h
        rw [List.mem_singleton.mp h, ← c]
        exact .inr he
      · rw [if_neg c] at h
        cases h
  · rintro (h | h)
    · exact ⟨(x, y), h, List.mem_append_left _ (by simp)⟩
    · exact ⟨(y, x), h, List.mem_append_right _ (by simp)⟩
end
end K01
/-! set(texts) -/
namespace WX
open PySem PySem.Spec PyProof.Rows L2
/-- among the first i texts of ws -/
def inW (ws : List Str) (i : Nat) (k : Key) : Bool := (ws.take i).any fun x => decide (k = Sum.inr x)
theorem inW_next {ws : List Str} {i : Nat} {x : Str} (h : ws[i]? = some x) (k : Key) : inW ws (i + 1) k = (inW ws i k || decide (k = Sum.inr x)) := by
  unfold inW
  rw [List.take_add_one, h, List.any_append]
  simp
theorem inW_all (ws : List Str) (x : Str) : inW ws ws.length (Sum.inr x) = decide (x ∈ ws) := by
  unfold inW
  rw [List.take_length]
  by_cases h : x ∈ ws
  · rw [decide_eq_true h]
    exact List.any_eq_true.mpr ⟨x, h, decide_eq_true rfl⟩
  · rw [decide_eq_false h]
    refine List.any_eq_false.mpr fun y hy e => h ?_
    have := of_decide_eq_true e
    cases this
    exact hy
theorem set_alike {P : Program} {w : World} {h : Heap} {a : Addr} {S S' : Key → Bool} {c c' : Nat} (R : h.SetOf (mixKind P w) a S c) (e : ∀ k, S k = S' k) (ec : c = c') : h.SetOf (mixKind P w) a S' c' := by
  obtain rfl : S = S' := funext e
  exact ec ▸ R
theorem set_same {P : Program} {w : World} {h h' : Heap} {a : Addr} {S : Key → Bool} {c : Nat} (R : h.SetOf (mixKind P w) a S c) (k : ∀ o, h.get? a = some o → h'.get? a = some o) : h'.SetOf (mixKind P w) a S c := setOf_at R k
section
variable {P : Program} {w : World} {A : Around} {R : Result → Shared → Prop} {I0 : Addr} {fp wr : List Addr} {G : Array GenState → Array GenState → Prop} {n : Nat} {V0 : Nat → Value → Prop} {St0 : Nat → Shared → Prop}
theorem upd_texts (Wk : WalksS P w A.in1 I0 fp wr G n V0 St0) (T : Addr) (nT : T ∉ fp) (ws : List Str) (few : n ≤ 100) (val : ∀ i v, V0 i v → ∃ x, ws[i]? = some x ∧ RelV (V.str x) v) :
    ∀ (m i : Nat) (s : Shared), n - i = m → i ≤ n → St0 i s → (∃ c, c ≤ i ∧ s.heap.SetOf (mixKind P w) T (inW ws i) c) →
      (∀ s2, Moved (T :: wr) G s s2 → (∃ c, c ≤ n ∧ s2.heap.SetOf (mixKind P w) T (inW ws n) c) → R (.ok (.ret .none)) s2) →
      codeAny (model P w) A (.builtin "set.update.loop" ⟨[.ref T, .ref I0], []⟩) R s := by
  have nTw : T ∉ wr := fun z => nT (Wk.sub _ z)
  have more : ∀ b ∈ wr, b ∈ T :: wr := fun b z => List.mem_cons_of_mem _ z
  intro m
  induction m with
  | zero =>
    intro i s e le st ⟨c, hc, R0⟩ fin
    obtain rfl : i = n := by omega
    refine codeAny_builtin F.entry_set_update_loop (by
      rw [Around.under_plainId F.plain_set_update_loop _]
      show wpAny _ A.in1 (pyNext (.ref I0) >>= _) _ _ s
      exact wpAny_bind (Wk.done s _ _ st fun s2 mv => (show wpAny _ A.in1 (ret Value.none) _ _ s2 from wpAny_pure (fin s2 (mv.mono more) ⟨c, hc, set_same R0 fun o ho => mv.heap T _ nTw ho⟩))))
  | succ m ih =>
    intro i s e le st ⟨c, hc, R0⟩ fin
    have lt : i < n := by omega
    refine codeAny_builtin F.entry_set_update_loop (by
      rw [Around.under_plainId F.plain_set_update_loop _]
      show wpAny _ A.in1 (pyNext (.ref I0) >>= _) _ _ s
      refine wpAny_bind (Wk.item i s _ _ lt st fun u s2 pu st2 mv => ?_)
      obtain ⟨x, hx, ru⟩ := val i u pu
      have R1 := set_same (h' := s2.heap) R0 fun o ho => mv.heap T _ nTw ho
      have ru' : RelV (kV (Sum.inr x)) u := ru
      show wpAny _ A.in1 (holding [u] (setAdd T u) >>= _) _ _ s2
      refine wpAny_bind (wpAny_holding (by
        unfold setAdd
        refine wpAny_holding (wpAny_bind ((mixKind P w).pyHash (k := Sum.inr x) (kV_is ru') ?_))
        refine wpAny_setAddHashed_of (knd := mixKind P w) (s := { s2 with toks := s2.toks + 1 }) (kV_is ru') (key_scan ru') R1 (by unfold scanBound; omega) fun h2 sb R2 => ?_
        refine wpAny_pure ⟨plainId_quiet F.plain_set_update_loop _, ih (i + 1) _ (by omega) lt (Wk.frame _ s2 _ _ st2 (Nat.le_succ _) fun b hb o eo => (sb.2 b (fun z : b = T => nT (by rw [← z]; exact hb))).trans eo) ⟨_, ?_, set_alike R2 (fun k => (inW_next hx k).symm) rfl⟩ fun s3 mv3 R3 => ?_⟩
        · split <;> omega
        · exact fin s3 (Moved.trans Wk.gtrans ((mv.mono more).then_heap (Nat.le_succ _) fun b o hb eo => (sb.2 b (fun z : b = T => hb (by rw [z]; exact List.mem_cons_self))).trans eo) mv3) R3)))
end
section
variable {P : Program} {w : World} {A : Around} {E : Value → Shared → Prop} {s : Shared}
abbrev newSet (led : Bool) : Obj := { cls := .type "set", dict := none, data := .set #[] 0 (.fresh 0 0 led) }
theorem setOf_fresh {led : Bool} {h : Heap} {a : Addr} (e : h.get? a = some (newSet led)) : h.SetOf (mixKind P w) a (fun _ => false) 0 :=
  ⟨_, #[], 0, _, e, ⟨rfl, rfl, rfl⟩, rfl, (fun e he => by simp at he), (fun k => by simp), (by cases led <;> decide), (by cases led <;> rfl), rfl⟩
set_option maxHeartbeats 3200000 in
theorem call_set_texts {l : Addr} {items : Array Value} {ws : List Str} {Q : Value → Shared → Prop} (hh : A.handled = none) (hl : s.heap.IsList l items) (hv : Vals (ws.map V.str) items.toList) (few : ws.length ≤ 100)
    (h : ∀ (h2 : Heap) (tk c : Nat), c ≤ ws.length → h2.SetOf (mixKind P w) s.heap.objs.size (inW ws ws.length) c → (∀ b o, s.heap.get? b = some o → h2.get? b = some o) → Q (.ref s.heap.objs.size) { s with heap := h2, toks := tk }) :
    wpAny (model P w) A (call (.type "set") [.ref l]) Q E s := by
  have isz : items.size = ws.length := by
    have := hv.length
    rw [List.length_map, Array.length_toList] at this
    exact this.symm
  have ⟨_, _, mr⟩ := PySem.F.called_set.mro
  have md := PySem.F.called_set.made; have sb := PySem.F.called_set.sub
  refine wpAny_call (codeAny_of_tree (by
    show wpAny _ _ (callAny (.type "set") _) _ _ _
    refine wpAny_pure ⟨Code.quiet_builtin _ (by decide +kernel), codeAny_builtin PySem.F.entry_type_call ?_⟩
    rw [Around.under_plain (weight_type_call_type "set" [.ref l] []) rfl]
    have nt := PySem.F.called_set.notType; have cc := PySem.F.called_set.canCreate; have tc := PySem.F.typeCall_set_1 (.ref l)
    repeat (any_goals (first | assumption | wp_step))
    refine codeAny_mono (code_set_new_1 (.ref l) (E := E) (Q₁ := fun ob s1 => ∃ led : Bool, ob = .ref s.heap.objs.size ∧ s1 = { s with heap := s.heap.push (newSet led) }) fun led => ⟨led, rfl, rfl⟩) fun r s1 hr => ?_
    match r, hr with
    | .error e, hr => exact hr
    | .ok (.ret ob), ⟨led, e1, e2⟩ =>
      subst e1 e2
      have hS : (s.heap.push (newSet led)).get? s.heap.objs.size = some (newSet led) := Heap.get?_push_size _ rfl
      have tS : Shared.TypeIs { s with heap := s.heap.push (newSet led) } (.ref s.heap.objs.size) "set" := ⟨_, hS, rfl⟩
      have li := PySem.F.called_set.init.lookup; have bi := PySem.F.called_set.init.bind (.ref s.heap.objs.size)
      repeat (any_goals (first | assumption | wp_step))
      refine codeAny_mono (codeAny_call_builtin (R := wants (fun r s2 => r = .none ∧ ∃ h2 tk c, s2 = { s with heap := h2, toks := tk } ∧ c ≤ ws.length ∧ h2.SetOf (mixKind P w) s.heap.objs.size (inW ws ws.length) c ∧
          (∀ b o, s.heap.get? b = some o → h2.get? b = some o)) E) PySem.F.called_set.init.plain PySem.F.entry_set_init (check_set_init_1 tS ?_)) fun r2 s2 hr2 => ?_
      · obtain ⟨⟨oc, od, oa, os⟩, ho, hc, nl, hd⟩ := hl
        simp only at hc hd
        subst hc hd
        have ho1 : (s.heap.push (newSet led)).get? l = some { cls := .type "list", dict := od, data := .seq items nl, slots := os } := Heap.get?_push_of_some _ ho
        have s1 := PySem.F.sub_list_set; have s2 := PySem.F.sub_list_frozenset
        have ne : (Value.type "list" == Value.type "dict") = false := by decide
        have hl1 : (s.heap.push (newSet led)).IsList l items := ⟨_, ho1, rfl, nl, rfl⟩
        unfold Builtin.«set.__init__» noKeywords Builtin.Frozenset.updateFrom
        generalize hPI : pyIter = PI
        wp_walk
        subst hPI
        refine wpAny_pyIter_list hl1 (wpAny_bind (wpAny_runValue ?_))
        have ll : l < s.heap.objs.size := Heap.lt_size ho
        have h3 : A.in1.in1.in1.handled = none := by simp [hh]
        have z1 : (s.heap.push (newSet led)).objs.size = s.heap.objs.size + 1 := Heap.size_push ..
        have nI : l ≠ (s.heap.push (newSet led)).objs.size := by
          rw [z1]
          exact Nat.ne_of_lt (Nat.lt_succ_of_lt ll)
        have nS : s.heap.objs.size ∉ [(s.heap.push (newSet led)).objs.size, l] := by
          rw [z1]
          simp only [List.mem_cons, List.not_mem_nil, or_false, not_or]
          exact ⟨Nat.ne_of_lt (Nat.lt_succ_self _), Nat.ne_of_gt ll⟩
        have val : ∀ (i : Nat) (v : Value), items[i]? = some v → ∃ x, ws[i]? = some x ∧ RelV (V.str x) v := fun i v e => by
          have hi : i < ws.length := by have := (Array.getElem?_eq_some_iff.mp e).1; omega
          refine ⟨ws[i], List.getElem?_eq_getElem hi, ?_⟩
          have := hv.get (i := i) (x := V.str ws[i]) (by rw [List.getElem?_map, List.getElem?_eq_getElem hi]; rfl)
          obtain ⟨u, e2, ru⟩ := this
          rw [Array.getElem?_toList, e] at e2
          cases e2
          exact ru
        refine upd_texts ((Walks.list h3 _ l nI items).toS) s.heap.objs.size nS ws (by omega) val (items.size - 0) 0 _ rfl (Nat.zero_le _) ⟨⟨_, Heap.get?_push_size _ rfl, rfl, rfl⟩, hl1.push _⟩ ?hS0 ?hR
        case hS0 =>
          exact ⟨0, Nat.le_refl _, set_alike (setOf_fresh (Heap.get?_push_of_some _ hS)) (fun k => by unfold inW; simp) rfl⟩
        case hR =>
          rintro ⟨h4, g4, d4, t4, o4⟩ mv ⟨c, hc, R4⟩
          have eg : g4 = s.gens := mv.gens
          have ed : d4 = s.drawn := mv.drawn
          have eo : o4 = s.os := mv.os
          subst eg ed eo
          rw [isz] at hc R4
          show wpAny _ _ _ _ _ _
          refine wpAny_pure (show wpAny _ _ (ret Value.none) _ _ _ from wpAny_pure ⟨rfl, h4, t4, c, rfl, hc, R4, fun b o e => ?_⟩)
          have hb := Heap.lt_size e
          refine mv.heap b o (by
            simp only [List.mem_cons, List.not_mem_nil, or_false, not_or]
            rw [z1]
            exact ⟨Nat.ne_of_lt hb, Nat.ne_of_lt (Nat.lt_succ_of_lt hb)⟩) (Heap.get?_push_of_some _ (Heap.get?_push_of_some _ e))
      · match r2, hr2 with
        | .error e, hr2 => exact hr2
        | .ok (.ret r3), ⟨e1, h2, tk, c, e2, hc, R4, k4⟩ =>
          subst e1 e2
          repeat (any_goals (first | assumption | wp_step))
          exact h _ _ _ hc R4 k4))
end
/-- set(xs), xs a list of texts -/
def rSetOfS (K : PySem.W.Frag) (P : Program) (w : World) : List V → Hp → VK → Prop := fun xs H Q => ∃ a, xs = [V.ref a] ∧ ∃ ws : List Str, SqL K H a (ws.map V.str) ∧ ws.length ≤ 100 ∧ ∀ p c, H p = none → Q (.ref p) (L2.upd H p (SetK P w p (inW ws ws.length) c))
theorem cr_setOfS {X : Cx} (hc : X.calm = true) : CallR X (.type "set") (rSetOfS X.K X.prog X.w) := by
  intro pins s σ H xs us Q I r h
  obtain ⟨a, rfl, ws, hs, few, q⟩ := h
  rw [Vals.ref1 r]
  obtain ⟨its, rv, pl, hz⟩ := I.list hs
  refine call_set_texts (P := X.prog) (w := X.w) (I.ok.hd hc) pl.isList (by simpa using rv) few fun h2 tk c _ R2 k2 => ?_
  exact ⟨.ref s.heap.objs.size, L2.upd H s.heap.objs.size (SetK X.prog X.w s.heap.objs.size (inW ws ws.length) c), I.laid (t' := tk) k2 (Nat.le_refl _) (setK_new R2), rfl, q _ c (I.hok.fresh (Nat.le_refl _))⟩
theorem cr_setOfSK {X : Cx} {K : PySem.W.Frag} {P : Program} {w : World} (hc : X.calm = true) (h : X.K = K := by rfl) (hP : X.prog = P := by rfl) (hw : X.w = w := by rfl) : CallR X (.type "set") (rSetOfS K P w) := h ▸ hP ▸ hw ▸ cr_setOfS hc
end WX
/-! own methods that may raise; d.get(text) -/
namespace HotExc
open PySem PySem.Spec PyProof.Rows L2 L2H
def tMethP (C : Addr) (m : Str) (sp : Sp) (E : L2.St → XK) (ta : TE) (t : TA) : TE := fun σ H Q => ta σ H fun x H1 => ∃ a dx fs, x = .ref a ∧ H1 a = some (.ins C dx fs) ∧ fs.lookup m = none ∧ t σ H1 fun vs H2 => sp (x :: vs) H2 Q (E σ)
theorem pe_methP {X : Cx} {CX : CXT} {k : Nat} {C f : Addr} {fd : FuncData} {ps : List Str} {sp : Sp} {E : L2.St → XK} {o e : Expr} {es : List Expr} {m : Str} {apos pos : Pos} {ta : TE} {t : TA} {pl : Sem Bool} (he : PE X o ta) (c : Cls X.K C) (hm : Meth X.K C m f)
    (F : FnOk X.prog X.w X.K X.mg X.base CX k f fd ps sp) (hr : Room k X.A) (hb : Binds X.K fd ps []) (hx : ∀ σ, PassesAt CX X σ (E σ)) (ha : PA X (e :: es) t)
    (hst : starEach (e :: es) X.env = (false, eval e X.env) :: starEach es X.env := by rfl) (hpl : (backTo pos (starEach es X.env)).any (·.1) = false := by rfl)
    (ht : eval (.Call (.Attribute o m apos) (e :: es) [] pos) X.env = (do
      let ov ← eval o X.env
      standAt apos.atName
      let (f, first) ← holding [ov] (getMethod ov m pl)
      callWith pos f first (backTo pos (starEach (e :: es) X.env)) (backToKw pos (keywordEach [] X.env))) := by rfl) :
    PE X (.Call (.Attribute o m apos) (e :: es) [] pos) (tMethP C m sp E ta t) := by
  refine ⟨fun pins s σ H Q I h => PySem.W.methodCall_KW (pl := pl) (thn (he.run pins s σ H _ I h) fun u s1 got => ?_) ht⟩
  obtain ⟨x, H1, I1, rx, a, dx, fs, ex, ea, l, q⟩ := got
  subst ex
  obtain rfl : u = Value.ref a := rx
  refine getmeth_ok I1 ea c hm l (PySem.W.callWith_K (first := [.ref a]) (h₀ := X.base) I.ok.mod.kin hm.kp (thn (ha.run pos pins s1 σ H1 _ I1 q) fun us s2 got2 => ?_) hst hpl)
  obtain ⟨vs, H2, I2, r, q2⟩ := got2
  refine ⟨I2.kIn, ?_⟩
  have r2 : Vals (V.ref a :: vs) (Value.ref a :: us) := .cons rfl r
  have n : (Value.ref a :: us).length = ps.length := by rw [← r2.length]; exact F.len _ _ _ _ q2
  have b := hb s2 (Value.ref a :: us) I2.kIn (by rw [List.append_nil]; exact n)
  rw [List.append_nil] at b
  refine wpAny_call (codeAny_mono (F.run X.A X.stack s2 H2 ⟨Value.ref a :: us, []⟩ _ _ Q (E σ) hr I2.env0 b r2 q2) fun r s' hq => ?_)
  match r, hq with
  | .error e, hq => exact hx σ pins H2 s2 e s' I2 hq
  | .ok (.ret u), hq => exact I2.after hq
  | .ok .next, hq => exact hq.elim
  | .ok .brk, hq => exact hq.elim
  | .ok .cont, hq => exact hq.elim
def tG1 (td ty : TE) : TE := fun σ H Q => td σ H fun x H1 => ∃ a, x = .ref a ∧ ∃ kvs, H1 a = some (.dK kvs) ∧ ty σ H1 fun y H2 => ∃ z, y = .str z ∧ H2 a = some (.dK kvs) ∧ Q ((valV kvs (Sum.inr z)).getD .non) H2
theorem pe_g1 {X : Cx} {o e : Expr} {td ty : TE} {apos cpos : Pos} (hu : X.A.units + 1 < cLine) (ho : PE X o td) (he : PE X e ty) (m : M1 X o "get" apos e cpos) : PE X (.Call (.Attribute o "get" apos) [e] [] cpos) (tG1 td ty) := by
  refine ⟨fun pins s σ H Q I h => wpAny_Call_method m.base m.few m.line PySem.F.plainAttrs_dict PySem.F.slot_dict_get PySem.F.type_dict_get (thn (ho.run pins s σ H _ I h) fun u s1 got => ?_)⟩
  obtain ⟨x, H1, I1, rx, a, ex, kvs, hk, q1⟩ := got
  subst ex
  obtain rfl : u = Value.ref a := rx
  have d := isD_at I1 (.inl ⟨kvs, .inl hk⟩)
  refine ⟨d.1, d.2.1, ?_⟩
  rw [m.trees]
  refine Calls.callWith_builtin rfl (Calls.evalArgs_plain (Calls.spliced_cons (thn (he.run pins s1 σ H1 _ I1 q1) fun iv s2 got2 => Calls.spliced_nil ?_)))
  obtain ⟨y, H2, I2, ry, z, ez, hk2, q2⟩ := got2
  have g : DGet H2 a y (valV kvs (Sum.inr z)) := by
    subst ez
    exact DGet.k (k := Sum.inr z) hk2
  exact d_get1 hu I2 g ry fun w' s4 I4 rw' => ⟨_, H2, I4, rw', q2⟩
end HotExc
namespace K01
open PySem PySem.Spec PyProof.Rows L2 TL HotExc Tw WX
theorem m_lenX {K : PySem.W.Frag} : Cm (rLenX K) := fun xs H Q Q' k ⟨p, e, ys, h, q⟩ => ⟨p, e, ys, h, k _ _ q⟩
end K01
namespace K01
open PySem PySem.Spec PyProof.Rows L2 TL HotExc Tw WX
local macro_rules | `(tactic| walk_at "rd") => `(tactic| simp only [start1, tMethP, tG1, rSetOfS, tDisp, tPairs, rSInK, tAug, ipI, wipe, isR, isBool, isInt, isStr, isLst, isTup, tAsg, gName, gSub, tVar, tC, tOp, tUn, tTest, tIfS, tRet, tRetN, tDrop, tB, tAnd, tOr, tNot, tAndV, tOrV, tNotV, tIf, tCB, tCons, tNil, tNext, tCall, tBM, tTup, tLst, rU, rInW, rNinW, Int.reduceNeg, tG, tG2, sP, tFldC, sFldC, tProp, tMeth, tMake, rOwnC, rLenO, rIsC, rNoT, tAddT, tSAddK, rSAddK, rSInK, rSet0K, rSet0T, rMinS, rMaxS, rSortedQ, rSortedT, rEqD, rNeD, rIxD, dcL_eq, dcZ_eq, lcO_eq, forE_eq, forT_eq, lcS_eq, ItX.rIterN, iOwn, List.append_nil, tDisp, tPairs, tCallS, tCallSD, tCallT, StX.tStar, tCallK, tCallKS, rTupOf, tDrop, rI0, rI, rEq, rNe, scal, forR_eq, forR2_eq, forS_eq, forL_eq, lcT_eq, lcRT_eq, lcS_eq, rLenX, rLenS, rListOf, tRevL, rMulS, rRepL, rCatL, rSumN, rMaxN, tBM0, rPop, tAug, ipI,  tPart, tNoPart, CwR.tReplC, rAllK, rInSg, rNinSg, sgn_inj, rAddS, rInSt, tChain, tM1, tM0, rSplitN, rJoinN, exists_eq, rIntI, rIntB, rIntS, rStrI, rAbs, rOrd, rMin, rMax, rIxL, rIxX, rSetL, rAppend, rIxS, rSlS, rSlL, tSl, List.map_cons, List.map_nil, List.replicate_succ, List.replicate_zero, List.length_cons, List.length_nil, Nat.reduceSub, Nat.reduceAdd, Nat.zero_add, Nat.sub_self, List.getElem?_cons_zero, List.getElem?_cons_succ, List.set_cons_zero, List.set_cons_succ, List.append_nil, List.nil_append, List.cons_append, Option.some.injEq, not_true_eq_false, reduceCtorEq, exists_eq_left', exists_eq_left, exists_eq', exists_and_left, exists_and_right, V.int.injEq, V.str.injEq, V.bl.injEq, V.ref.injEq, List.cons.injEq, and_true, true_and, and_assoc, decide_eq_true_eq, Bool.not_eq_true', decide_eq_false_iff_not, ite_true, ite_false, if_true, if_false, Bool.not_true, Bool.not_false, Bool.false_eq_true, eq_self_iff_true, reduceIte, ne_eq, Int.reduceEq, not_false_eq_true])
local macro_rules | `(tactic| walk_at "rt") => `(tactic| try walk_at "rd")
local macro_rules | `(tactic| walk_at "st") => `(tactic| (walk_at "rt"; refine r_seq ?_; walk_at "rt"))
local macro_rules | `(tactic| walk_at "hp") => `(tactic| first | assumption | exact upd_same | (rw [upd_ne (by assumption)]; walk_at "hp"))
local macro_rules | `(tactic| walk_at "ex1") => `(tactic| ((with_reducible refine Exists.intro ?w (And.intro ?hx ?_)); (case hx => first | exact sq_of (by walk_at "hp") | exact .inl (sq_of (by walk_at "hp")) | exact rfl | (show _ = some (HO.lst _); walk_at "hp"))))
local macro_rules | `(tactic| walk_at "ex") => `(tactic| repeat (first | walk_at "ex1" | walk_at "rd"))
abbrev s_mWeb_checkplace : Stmt := clsS 34 11
theorem sc_mWeb_checkplace : FnScope ["self", "place"] ["self", "place"] (defScope s_mWeb_checkplace) := ⟨rfl, rfl, rfl, by decide +kernel, rfl, by decide +kernel, by decide +kernel⟩
abbrev s_mWeb_checkall : Stmt := clsS 34 12
theorem sc_mWeb_checkall : FnScope ["self", "within", "place"] ["self", "within"] (defScope s_mWeb_checkall) := ⟨rfl, rfl, rfl, by decide +kernel, rfl, by decide +kernel, by decide +kernel⟩
abbrev s_mWeb_stepsfrom : Stmt := clsS 34 13
theorem sc_mWeb_stepsfrom : FnScope ["self", "start", "within", "inside", "steps", "reached", "at", "place", "beside"] ["self", "start", "within"] (defScope s_mWeb_stepsfrom) := ⟨rfl, rfl, rfl, by decide +kernel, rfl, by decide +kernel, by decide +kernel⟩
abbrev s_iNoPlace : Stmt := clsS 8 0
theorem sc_iNoPlace : FnScope ["self", "place"] ["self", "place"] (defScope s_iNoPlace) := ⟨rfl, rfl, rfl, by decide +kernel, rfl, by decide +kernel, by decide +kernel⟩
/-- NoPlace, told of z -/
def NoPl (CN : Addr) (z : Str) (H : Hp) (E : XK) : Prop := ∀ d, H d = none → E (.ref CN) (some d) (L2.upd H d (.xd [(("place" : Str), .str z)]))
def oddIn (ws zs : List Str) : Option Str := zs.find? fun z => decide (z ∉ ws)
def spCkPl (C CN : Addr) : Sp := fun vs H Q E => ∃ x Ps T z, vs = [.ref x, .str z] ∧ IsWeb C H x Ps T ∧ (z ∈ Ps → Q .non H) ∧ (z ∉ Ps → NoPl CN z H E)
def spCkAll (C CN : Addr) : Sp := fun vs H Q E => ∃ (x p : Addr) (Ps : List Str) (T : List (Str × Str)) (W : List Str), vs = [.ref x, .ref p] ∧ IsWeb C H x Ps T ∧ H p = some (.lst (W.map V.str)) ∧ (oddIn Ps W = none → Q .non H) ∧ (∀ z, oddIn Ps W = some z → NoPl CN z H E)
def spStF (C : Addr) : Sp := fun vs H Q _ => ∃ (x p : Addr) (Ps : List Str) (T : List (Str × Str)) (W : List Str) (s : Str), vs = [.ref x, .str s, .ref p] ∧ IsWeb C H x Ps T ∧ T.length ≤ 60 ∧ H p = some (.lst (W.map V.str)) ∧ W.length ≤ 100 ∧ (∀ y ∈ W, y ∈ Ps) ∧
  ∀ q kvs d ks H', Keeps H H' → H q = none → H' q = some (.dK kvs) → TabD kvs d → Exact T W s d → kvs.map (·.1) = (ks : List Str).map Sum.inr → ks.Nodup → (∀ x, x ∈ ks ↔ ∃ v, d x = some v) → Q (.ref q) H'
theorem webF_near (pl tl nd : Addr) : (webF pl tl nd).lookup (Str.ofString "_near") = some (.ref nd) := by
  unfold webF
  rw [lookup_putF, if_pos rfl]
theorem near_has {H : Hp} {nd : Addr} {Ps : List Str} {T : List (Str × Str)} (h : NearAt H nd Ps T) : ∃ kvs, H nd = some (.dK kvs) ∧ (∀ z, (valV kvs (Sum.inr z)).isSome = decide (z ∈ Ps)) ∧ ∀ x ∈ Ps, ∃ l, valV kvs (Sum.inr x) = some (.ref l) ∧ H l = some (.lst ((sortS (nears T x)).map V.str)) := by
  obtain ⟨kvs, h1, h2, h3⟩ := h
  refine ⟨kvs, h1, fun z => ?_, h2⟩
  by_cases hz : z ∈ Ps
  · obtain ⟨l, e, _⟩ := h2 z hz
    rw [e, decide_eq_true hz]
    rfl
  · rw [decide_eq_false hz]
    cases e : valV kvs (Sum.inr z) with
    | none => rfl
    | some v =>
      obtain ⟨x, hx, e2⟩ := h3 _ v e
      cases e2
      exact absurd hx hz
theorem webF_no (pl tl nd : Addr) {m : Str} (h1 : m ≠ Str.ofString "_near") (h2 : m ≠ Str.ofString "_ties") (h3 : m ≠ Str.ofString "_places") : (webF pl tl nd).lookup m = none := by
  unfold webF
  rw [lookup_putF, if_neg h1, lookup_putF, if_neg h2, lookup_putF, if_neg h3]
  rfl
section
variable {P : Program} {w : World} {K : PySem.W.Frag} {mg : Str → Option Value} {base : Heap}
theorem ok_iNoPlace {C f : Addr} {fd : FuncData} (T : OexC K C) (no : PySem.W.findIn K (.ref C) "place" = some none) (F : Fun K "__init__" "NoPlace.__init__" s_iNoPlace f fd) : FnOk P w K mg base CX0 1 f fd ["self", "place"] (spIni1 C "place") := by
  refine F.ok sc_iNoPlace (fun vs H Q E h => ?_) (fun cdv A outer s H vs Q E hr h => ?_)
  · obtain ⟨a, y, rfl, _⟩ := h
    rfl
  · obtain ⟨a, y, rfl, ha, q⟩ := h
    exact ⟨_, (pss_one (ps_ost (pv 0) (pv 1))), _, rfl, _, rfl, a, C, rfl, T, no, .inl ⟨ha, fun dx n ne => q dx n ne⟩⟩
theorem ok_checkplace {c_Web CN fI f : Addr} {fdI fd : FuncData} (X_NoPlace : Exn K mg "NoPlace" CN fI) (BI_NoPlace : Binds K fdI ["self", "place"] []) (GI_NoPlace : FnOk P w K mg base CX0 1 fI fdI ["self", "place"] (spIni1 CN "place"))
    (F : Fun K "_check_place" "Web._check_place" s_mWeb_checkplace f fd) (CL_Web : Cls K c_Web) (NA_Web_near : NoAttr K c_Web "_near") : FnOk P w K mg base (L2N.CX P w) 3 f fd ["self", "place"] (spCkPl c_Web CN) := by
  refine okN F sc_mWeb_checkplace (fun vs H Q E h => ?_) (fun cdv A outer s H vs Q E hr h => ?_)
  · obtain ⟨x, Ps, T, z, rfl, _⟩ := h
    rfl
  · obtain ⟨x, Ps, T, z, rfl, ⟨pl, tl, nd, dx, vs, W⟩, h1, h2⟩ := h
    refine ⟨_, (pss_one (ps_if (pt_cmp (pc_dnotin (hu_of hr) (pv 1) (pe_fldC CL_Web NA_Web_near (pv 0) (by rfl)))) (pss_one (L2N.ps_raise rfl (L2N.takes_of rfl rfl rfl rfl) (pmkN X_NoPlace.oex X_NoPlace.ini X_NoPlace.fn GI_NoPlace (hr.mono (by omega)) BI_NoPlace pass0 (by rfl) X_NoPlace.g (pa_cons (pv 1) pa_nil)))) pss_nil)), ?_⟩
    obtain ⟨kvs, hn, his, _⟩ := near_has W.nr
    unfold tDNotIn
    walk_at "rt"
    refine ⟨dx, _, W.ob, _, webF_near _ _ _, _, rfl, _, DGet.k (k := Sum.inr z) hn, ?_⟩
    rw [his z]
    by_cases hz : z ∈ Ps
    · rw [decide_eq_true hz]
      exact h1 hz
    · rw [decide_eq_false hz]
      walk_at "rt"
      exact ⟨_, rfl, mk1 (h2 hz)⟩
theorem ok_checkall {c_Web CN f f_checkplace : Addr} {fd fd_checkplace : FuncData} (F : Fun K "_check_all" "Web._check_all" s_mWeb_checkall f fd) (CL_Web : Cls K c_Web) (ME_mWeb_checkplace : Meth K c_Web "_check_place" f_checkplace) (B_mWeb_checkplace : Binds K fd_checkplace ["self", "place"] [])
    (G_mWeb_checkplace : FnOk P w K mg base (L2N.CX P w) 3 f_checkplace fd_checkplace ["self", "place"] (spCkPl c_Web CN)) : FnOk P w K mg base (L2N.CX P w) 4 f fd ["self", "within"] (spCkAll c_Web CN) := by
  refine okN F sc_mWeb_checkall (fun vs H Q E h => ?_) (fun cdv A outer s H vs Q E hr h => ?_)
  · obtain ⟨x, p, Ps, T, W, rfl, _⟩ := h
    rfl
  · obtain ⟨x, p, Ps, T, W, rfl, hw, hp, h1, h2⟩ := h
    refine ⟨_, (pss_one (ps_for PassesOwn.leaving rfl (pi_listK (K := K) (pv 1)) (pg_name (i := 2) sc_mWeb_checkall.nd rfl (.inl rfl)) (pss_one (ps_expr (pe_methP (pv 0) CL_Web ME_mWeb_checkplace G_mWeb_checkplace (hr.mono (by omega)) B_mWeb_checkplace (fun σ => L2N.passAt (L2N.takes_of rfl rfl rfl rfl) σ) (pa_cons (pv 2) pa_nil)))))), ?_⟩
    walk_at "rt"
    refine ⟨⟨_, sq_of hp⟩, ?_⟩
    refine r_list (W.map V.str) (fun i σ H' => (∃ x2, σ = [some (.ref x), some (.ref p), x2]) ∧ H' = H ∧ oddIn Ps (W.take i) = none) ⟨⟨_, rfl⟩, rfl, rfl⟩ (fun i σ H' _ h => h.2.1 ▸ sq_of hp) ?_ ?_
    · rintro i v σ H' hx ⟨⟨x2, rfl⟩, rfl, hn⟩ N kk
      obtain ⟨z, hz, rfl⟩ := get_map hx
      have step : oddIn Ps (W.take (i + 1)) = if z ∈ Ps then none else some z := by
        unfold oddIn at hn ⊢
        rw [take_snoc hz, List.find?_append, hn]
        by_cases h : z ∈ Ps <;> simp [h]
      have hw2 := hw
      obtain ⟨pl, tl, nd, dx, vs, WA⟩ := hw2
      walk_at "rt"
      refine ⟨dx, _, WA.ob, webF_no _ _ _ (by decide +kernel) (by decide +kernel) (by decide +kernel), x, Ps, T, z, rfl, hw, fun hz2 => kk _ _ ⟨⟨_, rfl⟩, rfl, by rw [step, if_pos hz2]⟩, fun hz2 => h2 z ?_⟩
      have : oddIn Ps (W.take (i + 1)) = some z := by rw [step, if_neg hz2]
      unfold oddIn at this ⊢
      rw [← List.take_append_drop (i + 1) W, List.find?_append, this]
      rfl
    · rintro σ H' ⟨⟨x2, rfl⟩, rfl, hn⟩
      rw [List.length_map, List.take_length] at hn
      exact h1 hn
end
end K01
namespace K01
open PySem PySem.Spec PyProof.Rows L2 TL HotExc Tw WX
local macro_rules | `(tactic| walk_at "rd") => `(tactic| simp only [start1, tMethP, tG1, rSetOfS, tDisp, tPairs, rSInK, tAug, ipI, wipe, isR, isBool, isInt, isStr, isLst, isTup, tAsg, gName, gSub, tVar, tC, tOp, tUn, tTest, tIfS, tRet, tRetN, tDrop, tB, tAnd, tOr, tNot, tAndV, tOrV, tNotV, tIf, tCB, tCons, tNil, tNext, tCall, tBM, tTup, tLst, rU, rInW, rNinW, Int.reduceNeg, tG, tG2, sP, tFldC, sFldC, tProp, tMeth, tMake, rOwnC, rLenO, rIsC, rNoT, tAddT, tSAddK, rSAddK, rSInK, rSet0K, rSet0T, rMinS, rMaxS, rSortedQ, rSortedT, rEqD, rNeD, rIxD, dcL_eq, dcZ_eq, lcO_eq, forE_eq, forT_eq, lcS_eq, ItX.rIterN, iOwn, List.append_nil, tDisp, tPairs, tCallS, tCallSD, tCallT, StX.tStar, tCallK, tCallKS, rTupOf, tDrop, rI0, rI, rEq, rNe, scal, forR_eq, forR2_eq, forS_eq, forL_eq, lcT_eq, lcRT_eq, lcS_eq, rLenX, rLenS, rListOf, tRevL, rMulS, rRepL, rCatL, rSumN, rMaxN, tBM0, rPop, tAug, ipI,  tPart, tNoPart, CwR.tReplC, rAllK, rInSg, rNinSg, sgn_inj, rAddS, rInSt, tChain, tM1, tM0, rSplitN, rJoinN, exists_eq, rIntI, rIntB, rIntS, rStrI, rAbs, rOrd, rMin, rMax, rIxL, rIxX, rSetL, rAppend, rIxS, rSlS, rSlL, tSl, List.map_cons, List.map_nil, List.replicate_succ, List.replicate_zero, List.length_cons, List.length_nil, Nat.reduceSub, Nat.reduceAdd, Nat.zero_add, Nat.sub_self, List.getElem?_cons_zero, List.getElem?_cons_succ, List.set_cons_zero, List.set_cons_succ, List.append_nil, List.nil_append, List.cons_append, Option.some.injEq, not_true_eq_false, reduceCtorEq, exists_eq_left', exists_eq_left, exists_eq', exists_and_left, exists_and_right, V.int.injEq, V.str.injEq, V.bl.injEq, V.ref.injEq, List.cons.injEq, and_true, true_and, and_assoc, decide_eq_true_eq, Bool.not_eq_true', decide_eq_false_iff_not, ite_true, ite_false, if_true, if_false, Bool.not_true, Bool.not_false, Bool.false_eq_true, eq_self_iff_true, reduceIte, ne_eq, Int.reduceEq, not_false_eq_true])
local macro_rules | `(tactic| walk_at "rt") => `(tactic| try walk_at "rd")
local macro_rules | `(tactic| walk_at "st") => `(tactic| (walk_at "rt"; refine r_seq ?_; walk_at "rt"))
local macro_rules | `(tactic| walk_at "hp") => `(tactic| first | assumption | exact upd_same | (rw [upd_ne (by assumption)]; walk_at "hp"))
local macro_rules | `(tactic| walk_at "ex1") => `(tactic| ((with_reducible refine Exists.intro ?w (And.intro ?hx ?_)); (case hx => first | exact sq_of (by walk_at "hp") | exact .inl (sq_of (by walk_at "hp")) | exact rfl | (show _ = some (HO.lst _); walk_at "hp"))))
local macro_rules | `(tactic| walk_at "ex") => `(tactic| repeat (first | walk_at "ex1" | walk_at "rd"))
theorem keys_put {kvs : List (Key × V)} {us : List Str} {y : Str} (h : kvs.map (·.1) = us.map Sum.inr) (hy : y ∉ us) (v : V) : (putK kvs (Sum.inr y) v).map (·.1) = (us ++ [y]).map Sum.inr := by
  have no : ¬ (kvs.any fun kv => decide (kv.1 = Sum.inr y)) = true := fun z => by
    obtain ⟨kv, hkv, e⟩ := List.any_eq_true.mp z
    have e := of_decide_eq_true e
    have hm : kv.1 ∈ us.map Sum.inr := h ▸ List.mem_map.mpr ⟨kv, hkv, rfl⟩
    obtain ⟨u, hu, e2⟩ := List.mem_map.mp hm
    rw [e] at e2
    cases e2
    exact hy hu
  unfold putK
  rw [if_neg no, List.map_append, List.map_append, h]
  rfl
section
variable {P : Program} {w : World} {K : PySem.W.Frag} {mg : Str → Option Value} {base : Heap}
theorem ok_stepsfrom {c_Web f : Addr} {fd : FuncData} (B : Bi mg) (B_set : mg "set" = none) (F : Fun K "_steps_from" "Web._steps_from" s_mWeb_stepsfrom f fd) (CL_Web : Cls K c_Web) (NA_Web_near : NoAttr K c_Web "_near") : FnOk P w K mg base CX0 2 f fd ["self", "start", "within"] (spStF c_Web) := by
  refine F.ok sc_mWeb_stepsfrom (fun vs H Q E h => ?_) (fun cdv A outer s H vs Q E hr h => ?_)
  · obtain ⟨x, p, Ps, T, W, st, rfl, _⟩ := h
    rfl
  · obtain ⟨x, p, Ps, T, W, st, rfl, ⟨pl, tl, nd, dx, vs, WA⟩, h60, hp, few, hin, q⟩ := h
    refine ⟨_, (pss_cons (ps_set (i := 3) sc_mWeb_stepsfrom.nd rfl (.inl rfl) (pe_callTy (cr_setOfSK (K := K) (P := P) (w := w) (by rfl)) (by rfl) B_set (by decide +kernel) (pa_cons (pv 2) pa_nil)))
      (pss_cons (ps_if (pt_cmpR (or_snotinKP (P := P) (w := w)) (pv 1) (pv 3) (by rfl)) (pss_one (ps_ret pe_dnewK)) pss_nil)
      (pss_cons (ps_set (i := 4) sc_mWeb_stepsfrom.nd rfl (.inl rfl) (pe_disp (pps_cons (pv 1) pe_int pps_nil) (by rfl) (by rfl) (fun z => by cases z) (by decide)))
      (pss_cons (ps_set (i := 5) sc_mWeb_stepsfrom.nd rfl (.inl rfl) (pe_lst (pa_cons (pv 1) pa_nil)))
      (pss_cons (ps_set (i := 6) sc_mWeb_stepsfrom.nd rfl (.inl rfl) pe_int)
      (pss_cons (ps_while PassesOwn.never (pt_cmpR op_lt (pv 6) (pe_callB (call_lenXK (K := K)) (by rfl) B.len PySem.boot_len (pa_cons (pv 5) pa_nil)) (nomark _)) (pss_cons (ps_set (i := 7) sc_mWeb_stepsfrom.nd rfl (.inl rfl) (pe_ix (ix_listK (K := K)) (pv 5) (pv 6) (fun _ _ => rfl)))
      (pss_cons (ps_aug (i := 6) sc_mWeb_stepsfrom.nd rfl (.inl rfl) pe_int ip_add)
      (pss_one (ps_for PassesOwn.never rfl (pi_listK (K := K) (pe_gS (hu_of hr) (pe_fldC CL_Web NA_Web_near (pv 0) (by rfl)) (pv 7) (fun _ _ => rfl))) (pg_name (i := 8) sc_mWeb_stepsfrom.nd rfl (.inl rfl)) (pss_one (ps_if (PW.pt (pw_and (pt_cmpR (or_sinKP (P := P) (w := w)) (pv 8) (pv 3) (by rfl)) (pw_and1 (pt_cmp (pc_dnotin (hu_of hr) (pv 8) (pv 4)))))) (pss_cons (ps_pS (hu_of hr) (pv 4) (pv 8) (pe_op op_add (pe_gS (hu_of hr) (pv 4) (pv 7) (fun _ _ => rfl)) pe_int) rfl)
      (pss_one (ps_expr (pe_bm PySem.F.plainAttrs_list PySem.F.slot_list_append PySem.F.type_list_append mt_append (pv 5) (pa_cons (pv 8) pa_nil))))) pss_nil)))))))
      (pss_one (ps_ret (pv 4))))))))), ?_⟩
    obtain ⟨kvn, hn, his, hnl⟩ := near_has WA.nr
    walk_at "st"
    refine ⟨W, sq_of hp, few, fun sa c nsa => ?_⟩
    have ksa : Keeps H (L2.upd H sa (SetK P w sa (inW W W.length) c)) := Keeps.new nsa
    have hsa : L2.upd H sa (SetK P w sa (inW W W.length) c) sa = some (SetK P w sa (inW W W.length) c) := upd_same
    generalize L2.upd H sa (SetK P w sa (inW W W.length) c) = H1 at *
    walk_at "st"
    refine ⟨Sum.inr st, rfl, _, ⟨c, hsa⟩, ?_⟩
    rw [inW_all]
    by_cases hs : st ∈ W
    · rw [decide_eq_true hs, if_neg (by decide)]
      walk_at "st"
      refine fun sd nsd => ⟨upd_same, [(Sum.inr st, .int 0)], rfl, Nat.le_of_ble_eq_true rfl, ?_⟩
      have e0 : mergeK [] [(Sum.inr st, V.int 0)] = putK [] (Sum.inr st) (.int 0) := rfl
      rw [e0]
      have ksd : Keeps H (L2.upd (L2.upd H1 sd (.dK [])) sd (.dK (putK [] (Sum.inr st) (.int 0)))) := (ksa.put (ksa.free nsd)).put (ksa.free nsd)
      have hsd : L2.upd (L2.upd H1 sd (.dK [])) sd (.dK (putK [] (Sum.inr st) (.int 0))) sd = some (.dK (putK [] (Sum.inr st) (.int 0))) := upd_same
      have hsa2 : L2.upd (L2.upd H1 sd (.dK [])) sd (.dK (putK [] (Sum.inr st) (.int 0))) sa = some (SetK P w sa (inW W W.length) c) := by
        have ne := ne_of_none hsa nsd
        rw [upd_ne ne, upd_ne ne]
        exact hsa
      have nsd0 := ksa.free nsd
      generalize L2.upd (L2.upd H1 sd (.dK [])) sd (.dK (putK [] (Sum.inr st) (.int 0))) = H2 at *
      walk_at "st"
      refine ⟨Nat.le_of_lt (size_ok (by decide)), fun lr nlr => ?_⟩
      have nlr0 := ksd.free nlr
      have k3 : Keeps H (L2.upd H2 lr (.lst [.str st])) := ksd.put nlr0
      have hsa3 : L2.upd H2 lr (.lst [.str st]) sa = some (SetK P w sa (inW W W.length) c) := (upd_ne (ne_of_none hsa2 nlr)).trans hsa2
      have hsd3 : L2.upd H2 lr (.lst [.str st]) sd = some (.dK (putK [] (Sum.inr st) (.int 0))) := (upd_ne (ne_of_none hsd nlr)).trans hsd
      have hlr3 : L2.upd H2 lr (.lst [.str st]) lr = some (.lst [.str st]) := upd_same
      have nsl : sd ≠ lr := ne_of_none hsd nlr
      have nal : sa ≠ lr := ne_of_none hsa2 nlr
      generalize L2.upd H2 lr (.lst [.str st]) = H3 at *
      have nas : sa ≠ sd := fun z => by rw [z, hsd3] at hsa3; cases hsa3
      walk_at "st"
      walk_at "st"
      refine r_while (m_test (m_op m_rI m_var (m_cb m_lenX (m_cons m_var m_nil))))
        (fun m σ H' => ∃ (us : List Str) (d : Str → Option Nat) (kvs : List (Key × V)) (n : Nat) (x7 x8 : Option V), m = W.length - n ∧ n ≤ us.length ∧ σ = [some (.ref x), some (.str st), some (.ref p), some (.ref sa), some (.ref sd), some (.ref lr), some (.int (n : Int)), x7, x8] ∧
          Keeps H H' ∧ H' sa = some (SetK P w sa (inW W W.length) c) ∧ H' sd = some (.dK kvs) ∧ H' lr = some (.lst (us.map V.str)) ∧ kvs.map (·.1) = us.map Sum.inr ∧ TabD kvs d ∧ Bfs T W st d us n)
        ⟨_, [st], _, _, 0, none, none, rfl, Nat.zero_le _, rfl, k3, hsa3, hsd3, hlr3, rfl, TabD.put (d := fun _ => none) (fun _ => rfl) st 0, Bfs.start hs⟩ ?_
      rintro m σ H4 ⟨us, d, kvs, n, x7, x8, rfl, hnu, rfl, k4, ha, hd, hl, hkl, hT, hB⟩ N kN
      have ul := hB.len
      walk_at "rt"
      refine ⟨_, .inl (sq_of hl), ite2 (fun h1 => ?_) (fun h1 => ?_)⟩
      · rw [List.length_map] at h1
        have hn' : n < us.length := by omega
        obtain ⟨z, hz⟩ : ∃ z, us[n]? = some z := ⟨_, List.getElem?_eq_getElem hn'⟩
        obtain ⟨u, hu⟩ := hB.val z (List.mem_of_getElem? hz)
        have hzW : z ∈ W := (hB.rel.so z u hu).mem
        obtain ⟨nl, hv, hnl⟩ := hnl z (hin z hzW)
        have at1 : atI (us.map V.str) (n : Int) = some (.str z) := atI_nat (by rw [List.getElem?_map, hz]; rfl)
        walk_at "st"
        refine ⟨_, sq_of hl, _, at1, ?_⟩
        walk_at "st"
        refine ⟨dx, _, k4 _ _ WA.ob, _, webF_near _ _ _, _, rfl, kvn, k4 _ _ hn, _, hv, nl, rfl, ⟨_, sq_of (k4 _ _ hnl)⟩, ?_⟩
        have nlen : (sortS (nears T z)).length ≤ 120 := by rw [(sortS_pm _).length_eq]; have := nears_len T z; omega
        refine r_list ((sortS (nears T z)).map V.str) (fun j σ H' => ∃ (us : List Str) (d : Str → Option Nat) (kvs : List (Key × V)) (x8 : Option V), σ = [some (.ref x), some (.str st), some (.ref p), some (.ref sa), some (.ref sd), some (.ref lr), some (.int ((n : Int) + 1)), some (.str z), x8] ∧
          Keeps H H' ∧ H' sa = some (SetK P w sa (inW W W.length) c) ∧ H' sd = some (.dK kvs) ∧ H' lr = some (.lst (us.map V.str)) ∧ kvs.map (·.1) = us.map Sum.inr ∧ TabD kvs d ∧ Bfs T W st d us n ∧ us[n]? = some z ∧ d z = some u ∧ ∀ y ∈ (sortS (nears T z)).take j, y ∈ W → ∃ v, d y = some v ∧ v ≤ u + 1)
          ⟨us, d, kvs, _, rfl, k4, ha, hd, hl, hkl, hT, hB, hz, hu, fun y hy => (by cases hy)⟩ (fun j σ H' _ h => by obtain ⟨_, _, _, _, _, k, _⟩ := h; exact sq_of (k _ _ hnl)) ?_ ?_
        · rintro j v σ H5 hv2 ⟨us, d, kvs, x8, rfl, k5, ha, hd, hl, hkl, hT, hB, hz, hu, hS⟩ N2 kk
          obtain ⟨y, hy, rfl⟩ := get_map hv2
          have hyn : Nbr T z y := (nears_nbr z y).mp ((sortS_pm _).mem_iff.mp (List.mem_of_getElem? hy))
          have seen : ∀ d' : Str → Option Nat, (∀ a v, d a = some v → d' a = some v) → (y ∈ W → ∃ v, d' y = some v ∧ v ≤ u + 1) → ∀ b ∈ (sortS (nears T z)).take (j + 1), b ∈ W → ∃ v, d' b = some v ∧ v ≤ u + 1 := fun d' hd' hy' b hb hbW => by
            rw [take_snoc hy] at hb
            rcases List.mem_append.mp hb with hb | hb
            · obtain ⟨v, e, hv⟩ := hS b hb hbW
              exact ⟨v, hd' b v e, hv⟩
            · rw [List.mem_singleton.mp hb] at hbW ⊢
              exact hy' hbW
          unfold tDNotIn
          walk_at "rt"
          refine ⟨Sum.inr y, rfl, _, ⟨c, ha⟩, ?_⟩
          rw [inW_all]
          by_cases hyW : y ∈ W
          · rw [decide_eq_true hyW]
            walk_at "rt"
            refine ⟨_, DGet.k (k := Sum.inr y) hd, ?_⟩
            rw [hT y]
            cases hdy : d y with
            | some v0 =>
              simp only [Option.map_some, Option.isSome_some, Bool.not_true, Bool.false_eq_true, if_false]
              exact kk _ _ ⟨us, d, kvs, _, rfl, k5, ha, hd, hl, hkl, hT, hB, hz, hu, seen d (fun _ _ e => e) fun _ => ⟨v0, hdy, hB.spr z u hz hu y v0 hdy⟩⟩
            | none =>
              simp only [Option.map_none, Option.isSome_none, Bool.not_false, if_true]
              have valz : valV kvs (Sum.inr z) = some (.int (u : Int)) := by rw [hT z, hu]; rfl
              have ul := hB.len
              walk_at "st"
              have sl : sd ≠ lr := fun e => by rw [e, hl] at hd; cases hd
              have al : sa ≠ lr := fun e => by rw [e, hl] at ha; cases ha
              have as : sa ≠ sd := fun e => by rw [e, hd] at ha; cases ha
              have hl2 : L2.upd H5 sd (.dK (putK kvs (Sum.inr y) (.int ((u : Int) + 1)))) lr = some (.lst (us.map V.str)) := (upd_ne sl.symm).trans hl
              refine ⟨kvs, hd, _, valz, _, rfl, kvs, hd, size_ok (by have := congrArg List.length hkl; rw [List.length_map, List.length_map] at this; omega), .inl ⟨rfl, _, sq_of hl2⟩, _, hl2, size_ok (by rw [List.length_map]; omega), ?_⟩
              have hput : (putK kvs (Sum.inr y) (.int ((u : Int) + 1))).map (·.1) = (us ++ [y]).map Sum.inr := keys_put hkl (fun hm => by obtain ⟨v, e⟩ := hB.val y hm; rw [hdy] at e; cases e) _
              refine kk _ _ ⟨us ++ [y], setD d y (u + 1), _, _, rfl, (k5.put nsd0).put nlr0, (upd_ne al).trans ((upd_ne as).trans ha), (upd_ne sl).trans upd_same, upd_same.trans (by rw [List.map_append]; rfl), hput, hT.put y (u + 1), hB.add hz hu hyn hyW hdy, ?_, (setD_ne (fun e => by rw [e, hdy] at hu; cases hu)).trans hu, seen _ (fun a v e => (setD_ne (fun e2 => by rw [e2, hdy] at e; cases e)).trans e) fun _ => ⟨u + 1, setD_eq, Nat.le_refl _⟩⟩
              rw [List.getElem?_append_left (lt_of_get hz)]
              exact hz
          · rw [decide_eq_false hyW]
            walk_at "rt"
            exact kk _ _ ⟨us, d, kvs, _, rfl, k5, ha, hd, hl, hkl, hT, hB, hz, hu, seen d (fun _ _ e => e) fun h => absurd h hyW⟩
        · rintro σ H5 ⟨us, d, kvs, x8, rfl, k5, ha, hd, hl, hkl, hT, hB, hz, hu, hS⟩
          rw [List.length_map, List.take_length] at hS
          have ul := hB.len
          have := lt_of_get hz
          refine kN (W.length - (n + 1)) _ _ (by omega) ⟨us, d, kvs, n + 1, _, _, rfl, this, rfl, k5, ha, hd, hl, hkl, hT, hB.next hz hu fun y hy hyW => hS y ((sortS_pm _).mem_iff.mpr ((nears_nbr z y).mpr hy)) hyW⟩
      · walk_at "rt"
        rw [List.length_map] at h1
        exact q sd kvs d us H4 k4 nsd0 hd hT (hB.exact (by omega)) hkl hB.nd (fun x => ⟨hB.val x, fun ⟨v, e⟩ => hB.key x v e⟩)
    · rw [decide_eq_false hs, if_pos rfl]
      unfold tDNewK
      exact fun sd nsd => q sd [] (fun _ => none) [] _ (ksa.put (ksa.free nsd)) (ksa.free nsd) upd_same (fun x => rfl) (Exact.off hs) rfl List.nodup_nil (fun x => ⟨fun h => (by cases h), fun ⟨v, e⟩ => (by cases e)⟩)
theorem odd3 {Ps W : List Str} {a b : Str} : oddIn Ps (a :: b :: W) = if a ∈ Ps then (if b ∈ Ps then oddIn Ps W else some b) else some a := by
  unfold oddIn
  by_cases ha : a ∈ Ps <;> by_cases hb : b ∈ Ps <;> simp [List.find?_cons, ha, hb]
theorem odd_none {Ps W : List Str} (h : oddIn Ps W = none) : ∀ y ∈ W, y ∈ Ps := fun y hy => by
  unfold oddIn at h
  have := List.find?_eq_none.mp h y hy
  simpa using this
end
end K01
namespace K01
open PySem PySem.Spec PyProof.Rows L2 TL HotExc L2H HotLc Tw WX
local macro_rules | `(tactic| walk_at "rd") => `(tactic| simp only [start1, tMethP, tG1, rSetOfS, tDisp, tPairs, rSInK, tAug, ipI, wipe, isR, isBool, isInt, isStr, isLst, isTup, tAsg, gName, gSub, tVar, tC, tOp, tUn, tTest, tIfS, tRet, tRetN, tDrop, tB, tAnd, tOr, tNot, tAndV, tOrV, tNotV, tIf, tCB, tCons, tNil, tNext, tCall, tBM, tTup, tLst, rU, rInW, rNinW, Int.reduceNeg, tG, tG2, sP, tFldC, sFldC, tProp, tMeth, tMake, rOwnC, rLenO, rIsC, rNoT, tAddT, tSAddK, rSAddK, rSInK, rSet0K, rSet0T, rMinS, rMaxS, rSortedQ, rSortedT, rEqD, rNeD, rIxD, dcL_eq, dcZ_eq, lcO_eq, forE_eq, forT_eq, lcS_eq, ItX.rIterN, iOwn, List.append_nil, tDisp, tPairs, tCallS, tCallSD, tCallT, StX.tStar, tCallK, tCallKS, rTupOf, tDrop, rI0, rI, rEq, rNe, scal, forR_eq, forR2_eq, forS_eq, forL_eq, lcT_eq, lcRT_eq, lcS_eq, rLenX, rLenS, rListOf, tRevL, rMulS, rRepL, rCatL, rSumN, rMaxN, tBM0, rPop, tAug, ipI,  tPart, tNoPart, CwR.tReplC, rAllK, rInSg, rNinSg, sgn_inj, rAddS, rInSt, tChain, tM1, tM0, rSplitN, rJoinN, exists_eq, rIntI, rIntB, rIntS, rStrI, rAbs, rOrd, rMin, rMax, rIxL, rIxX, rSetL, rAppend, rIxS, rSlS, rSlL, tSl, List.map_cons, List.map_nil, List.replicate_succ, List.replicate_zero, List.length_cons, List.length_nil, Nat.reduceSub, Nat.reduceAdd, Nat.zero_add, Nat.sub_self, List.getElem?_cons_zero, List.getElem?_cons_succ, List.set_cons_zero, List.set_cons_succ, List.append_nil, List.nil_append, List.cons_append, Option.some.injEq, not_true_eq_false, reduceCtorEq, exists_eq_left', exists_eq_left, exists_eq', exists_and_left, exists_and_right, V.int.injEq, V.str.injEq, V.bl.injEq, V.ref.injEq, List.cons.injEq, and_true, true_and, and_assoc, decide_eq_true_eq, Bool.not_eq_true', decide_eq_false_iff_not, ite_true, ite_false, if_true, if_false, Bool.not_true, Bool.not_false, Bool.false_eq_true, eq_self_iff_true, reduceIte, ne_eq, Int.reduceEq, not_false_eq_true])
local macro_rules | `(tactic| walk_at "rt") => `(tactic| try walk_at "rd")
local macro_rules | `(tactic| walk_at "st") => `(tactic| (walk_at "rt"; refine r_seq ?_; walk_at "rt"))
local macro_rules | `(tactic| walk_at "hp") => `(tactic| first | assumption | exact upd_same | (rw [upd_ne (by assumption)]; walk_at "hp"))
local macro_rules | `(tactic| walk_at "ex1") => `(tactic| ((with_reducible refine Exists.intro ?w (And.intro ?hx ?_)); (case hx => first | exact sq_of (by walk_at "hp") | exact .inl (sq_of (by walk_at "hp")) | exact rfl | (show _ = some (HO.lst _); walk_at "hp"))))
local macro_rules | `(tactic| walk_at "ex") => `(tactic| repeat (first | walk_at "ex1" | walk_at "rd"))
abbrev s_kinds : Stmt := topS 65
theorem sc_kinds : FnScope ["x", "names", "flags", "k"] ["x"] (defScope s_kinds) := ⟨rfl, rfl, rfl, by decide +kernel, rfl, by decide +kernel, by decide +kernel⟩
def excs : List String := ["TworoomsError", "BadNumber", "NoHand", "BadName", "TooMany", "NoEntry", "NoPlace", "SelfTie", "Repeated", "BadSigns", "BadText", "BadTree", "BadMap", "NotRight", "NoStone", "Stands", "Falls", "GameOver", "Occupied", "SelfTaking", "ComesBack", "BadDeed", "NothingDone", "BadRow"]
def flg (y x : String) : Bool := x == "ValueError" || (x == "TworoomsError" || x == y)
/-- what is known of the class x, asked of an instance of the class at D, whose name is y -/
def Kn (K : PySem.W.Frag) (mg : Str → Option Value) (D : Addr) (y x : String) : Prop := ∃ a, mg (Str.ofString x) = some (.ref a) ∧ PySem.W.kitOne K (.ref D) (.ref a) = some (flg y x)
def told (y : String) : List String := ("ValueError" :: excs).filter (flg y)
def spKinds (K : PySem.W.Frag) (D : Addr) (y : String) : Addr × Obj → Sp := fun p vs H Q _ => vs = [.ref p.1] ∧ ∃ dx fs, H dx = some (.xd fs) ∧ Zc (.ref D) (some dx) p.2 ∧ (∃ us, p.2.data = .fields us) ∧
  ∀ l H', (∀ b o, H b = some o → H' b = some o) → H' l = some (.lst ((told y).map fun x => V.str (Str.ofString x))) → Q (.ref l) H'
theorem flag_step {H Hn : Hp} {p1 p2 : Addr} {ns fl gl : List V} {G : Addr → Hp → Prop} (k : ∀ b o, H b = some o → Hn b = some o) (hn : Hn p1 = some (.lst ns)) (hf : Hn p2 = some (.lst fl)) (sz : fl.length + gl.length ≤ 1000)
    (q : ∀ b H', (∀ c o, H c = some o → H' c = some o) → H' p1 = some (.lst ns) → H' b = some (.lst (fl ++ gl)) → G b H') :
    gl.length ≤ sizeLine ∧ ∀ a, Hn a = none → ∃ xs, L2.upd Hn a (.lst gl) p2 = some (.lst xs) ∧ ∃ zs, L2.upd Hn a (.lst gl) a = some (.lst zs) ∧ xs.length + zs.length ≤ sizeLine ∧ ∀ b, L2.upd Hn a (.lst gl) b = none → G b (L2.upd (L2.upd Hn a (.lst gl)) b (.lst (xs ++ zs))) := by
  refine ⟨line_of (by omega), fun a na => ⟨fl, (upd_ne (kp_ne hf na)).trans hf, gl, upd_same, line_of (by omega), fun b nb => ?_⟩⟩
  exact q b _ (fun c o e => But0.new nb c o (But0.new na c o (k c o e))) (But0.new nb _ _ (But0.new na _ _ hn)) upd_same
theorem r_seqT {t u : TS} {D : Ends} {σ : L2.St} {H : Hp} (h : ∀ T : L2.St → Hp → Prop, (∀ σ' H', u D σ' H' → T σ' H') → t { D with nx := T } σ H) : tSeq t u D σ H := h (u D) fun _ _ h => h
theorem split_names : Txt.split (Str.ofString "ValueError TworoomsError BadNumber NoHand BadName TooMany NoEntry NoPlace SelfTie Repeated BadSigns" ++ Str.ofString " BadText BadTree BadMap NotRight NoStone Stands Falls GameOver Occupied SelfTaking ComesBack" ++ Str.ofString " BadDeed NothingDone BadRow") (Str.ofString " ") = ("ValueError" :: excs).map Str.ofString := by decide +kernel
section
variable {P : Program} {w : World} {K : PySem.W.Frag} {mg : Str → Option Value} {base : Heap}
theorem r_isP {D a c : Addr} {d : Option Addr} {b : Bool} {H : Hp} {Q : VK} (hk : PySem.W.kitOne K (.ref D) (.ref c) = some b) (hd : ∀ dx, d = some dx → ∃ fs, H dx = some (.xd fs)) (q : Q (.bl b) H) : rIsP K D a d [.ref a, .ref c] H Q :=
  ⟨_, rfl, .ref c, fun u r => r, b, hk, hd, q⟩
theorem r_isV {D a : Addr} {d : Option Addr} {b : Bool} {H : Hp} {Q : VK} (hk : PySem.W.kitOne K (.ref D) (.type "ValueError") = some b) (hd : ∀ dx, d = some dx → ∃ fs, H dx = some (.xd fs)) (q : Q (.bl b) H) : rIsP K D a d [.ref a, .ty "ValueError"] H Q :=
  ⟨_, rfl, .type "ValueError", fun u r => r, b, hk, hd, q⟩
theorem hot_of {X : Cx} {p : Addr × Obj} (h : Hot1 X.A p) (hp : p ∈ X.pn) : HotC X := ⟨p, h, hp⟩
theorem fin_kinds {H H10 : Hp} {p1 p10 p11 pe : Addr} {y : String} {Q : VK} (k10 : ∀ b o, H b = some o → H10 b = some o) (h10 : H10 p1 = some (.lst ((("ValueError" :: excs).map Str.ofString).map V.str)))
    (f10 : H10 p10 = some (.lst (("ValueError" :: excs).map fun x => V.bl (flg y x)))) (n11 : H10 p11 = none)
    (q : ∀ l H', (∀ b o, H b = some o → H' b = some o) → H' l = some (.lst ((told y).map fun x => V.str (Str.ofString x))) → Q (.ref l) H') :
    LcT (Itr 0 (((((("ValueError" :: excs).map Str.ofString).map V.str).length : Nat) : Int)).toNat) (gName 3) (tB (tOp (rIxL K) (tVar 2) (tVar 3))) (tOp (rIxL K) (tVar 1) (tVar 3)) [3] [some (.ref pe), some (.ref p1), some (.ref p10), none] H10 p11 (Q (.ref p11)) := by
  generalize hall : ("ValueError" :: excs) = all at h10 f10 ⊢
  have len : all.length = 25 := by rw [← hall]; decide
  have e25 : ((((all.map Str.ofString).map V.str).length : Nat) : Int).toNat = 25 := by rw [List.length_map, List.length_map, len]; rfl
  rw [e25]
  refine r_lcRT (fun i H' => H' p1 = some (.lst ((all.map Str.ofString).map V.str)) ∧ H' p10 = some (.lst (all.map fun x => V.bl (flg y x))) ∧ H' p11 = some (.lst (((all.take i).filter (flg y)).map fun x => V.str (Str.ofString x))) ∧ ∀ b o, H b = some o → H' b = some o) (fun x => rfl)
    ⟨But0.new n11 _ _ h10, But0.new n11 _ _ f10, upd_same, fun b o e => But0.new n11 b o (k10 b o e)⟩ ?_ ?_
  · rintro i H' hi ⟨a1, a2, a3, kp⟩ N M kN kM
    obtain ⟨x, hx⟩ : ∃ x, all[i]? = some x := ⟨_, List.getElem?_eq_getElem (by omega)⟩
    have x1 : atI ((all.map Str.ofString).map V.str) (0 + (i : Int)) = some (.str (Str.ofString x)) := by
      rw [Int.zero_add]
      exact atI_nat (by rw [List.getElem?_map, List.getElem?_map, hx]; rfl)
    have x2 : atI (all.map fun x => V.bl (flg y x)) (0 + (i : Int)) = some (.bl (flg y x)) := by
      rw [Int.zero_add]
      exact atI_nat (by rw [List.getElem?_map, hx]; rfl)
    have lf : ((all.take i).filter (flg y)).length ≤ i := Nat.le_trans (List.length_filter_le _ _) (by rw [List.length_take]; omega)
    walk_at "rd"
    refine ⟨_, sq_of a2, _, x2, _, rfl, ite2 (fun e => ⟨_, sq_of a1, _, x1, ?_⟩) (fun e => kM _ ⟨a1, a2, ?_, kp⟩)⟩
    · refine kN _ _ _ a3 (size_ok (by rw [List.length_map]; omega)) ⟨But0.put' a1 (fun z => ?_), But0.put' a2 (fun z => ?_), ?_, fun b o z => ?_⟩
      · rw [z, n11] at h10
        cases h10
      · rw [z, n11] at f10
        cases f10
      · rw [upd_same, List.take_succ, hx, List.filter_append, List.map_append]
        simp only [Option.toList_some, List.filter_cons, e, if_true, List.filter_nil, List.map_cons, List.map_nil]
      · have nb : b ≠ p11 := fun z' => by
          have z2 := k10 b o z
          rw [z', n11] at z2
          cases z2
        rw [upd_ne nb]
        exact kp b o z
    · have e : flg y x = false := by simpa using e
      rw [a3, List.take_succ, hx, List.filter_append]
      simp only [Option.toList_some, List.filter_cons, e, Bool.false_eq_true, if_false, List.filter_nil, List.append_nil]
  · rintro H' ⟨a1, a2, a3, kp⟩
    rw [← len, List.take_length] at a3
    refine q _ _ kp ?_
    unfold told
    rw [hall]
    exact a3
theorem ok_kinds {D f : Addr} {fd : FuncData} {y : String} (B : Bi mg) (B_ValueError : mg "ValueError" = none) (Df : Dn K mg "_law_kinds" s_kinds ["x"] f fd) (XC : ExcC K D) (kn : ∀ x ∈ excs, Kn K mg D y x) (kv : PySem.W.kitOne K (.ref D) (.type "ValueError") = some (flg y "ValueError")) :
    FnE P w K mg base CX0 1 f fd ["x"] (spKinds K D y) := by
  refine FnE.of Df.F sc_kinds (fun p vs H Q E h => ?_) (fun p cdv A outer s H vs Q E hot hr h => ?_)
  · obtain ⟨rfl, _⟩ := h
    rfl
  · obtain ⟨rfl, dx, fs, hdx, hz, hf, q⟩ := h
    obtain ⟨c_TworoomsError, gc_TworoomsError, k_TworoomsError⟩ := kn "TworoomsError" (by decide)
    obtain ⟨c_BadNumber, gc_BadNumber, k_BadNumber⟩ := kn "BadNumber" (by decide)
    obtain ⟨c_NoHand, gc_NoHand, k_NoHand⟩ := kn "NoHand" (by decide)
    obtain ⟨c_BadName, gc_BadName, k_BadName⟩ := kn "BadName" (by decide)
    obtain ⟨c_TooMany, gc_TooMany, k_TooMany⟩ := kn "TooMany" (by decide)
    obtain ⟨c_NoEntry, gc_NoEntry, k_NoEntry⟩ := kn "NoEntry" (by decide)
    obtain ⟨c_NoPlace, gc_NoPlace, k_NoPlace⟩ := kn "NoPlace" (by decide)
    obtain ⟨c_SelfTie, gc_SelfTie, k_SelfTie⟩ := kn "SelfTie" (by decide)
    obtain ⟨c_Repeated, gc_Repeated, k_Repeated⟩ := kn "Repeated" (by decide)
    obtain ⟨c_BadSigns, gc_BadSigns, k_BadSigns⟩ := kn "BadSigns" (by decide)
    obtain ⟨c_BadText, gc_BadText, k_BadText⟩ := kn "BadText" (by decide)
    obtain ⟨c_BadTree, gc_BadTree, k_BadTree⟩ := kn "BadTree" (by decide)
    obtain ⟨c_BadMap, gc_BadMap, k_BadMap⟩ := kn "BadMap" (by decide)
    obtain ⟨c_NotRight, gc_NotRight, k_NotRight⟩ := kn "NotRight" (by decide)
    obtain ⟨c_NoStone, gc_NoStone, k_NoStone⟩ := kn "NoStone" (by decide)
    obtain ⟨c_Stands, gc_Stands, k_Stands⟩ := kn "Stands" (by decide)
    obtain ⟨c_Falls, gc_Falls, k_Falls⟩ := kn "Falls" (by decide)
    obtain ⟨c_GameOver, gc_GameOver, k_GameOver⟩ := kn "GameOver" (by decide)
    obtain ⟨c_Occupied, gc_Occupied, k_Occupied⟩ := kn "Occupied" (by decide)
    obtain ⟨c_SelfTaking, gc_SelfTaking, k_SelfTaking⟩ := kn "SelfTaking" (by decide)
    obtain ⟨c_ComesBack, gc_ComesBack, k_ComesBack⟩ := kn "ComesBack" (by decide)
    obtain ⟨c_BadDeed, gc_BadDeed, k_BadDeed⟩ := kn "BadDeed" (by decide)
    obtain ⟨c_NothingDone, gc_NothingDone, k_NothingDone⟩ := kn "NothingDone" (by decide)
    obtain ⟨c_BadRow, gc_BadRow, k_BadRow⟩ := kn "BadRow" (by decide)
    have hin : (p.1, p.2) ∈ (cxH CX0 P w K mg base ["x", "names", "flags", "k"] "_law_kinds" (defScope s_kinds) f cdv A outer s H E p).pn := List.mem_singleton.mpr rfl
    refine ⟨_, (pss_cons (ps_set (i := 1) sc_kinds.nd rfl (.inr rfl) pe_str)
      (pss_cons (ps_set (i := 1) sc_kinds.nd rfl (.inr rfl) (pe_op op_addS (pv 1) pe_str))
      (pss_cons (ps_set (i := 1) sc_kinds.nd rfl (.inr rfl) (pe_m1 PySem.F.slot_str_split PySem.F.type_str_split mt_splitN (pe_op op_addS (pv 1) pe_str) pe_str))
      (pss_cons (ps_set (i := 2) sc_kinds.nd rfl (.inr rfl) (pe_lst (pa_cons (pe_callB (call_isP XC hin hz hf) (by rfl) B.isinstance (by decide +kernel) (pa_cons (pv 0) (pa_cons (pe_bltn (v := .ty "ValueError") (by rfl) B_ValueError (by decide +kernel) rfl) pa_nil))) (pa_cons (pe_callB (call_isP XC hin hz hf) (by rfl) B.isinstance (by decide +kernel) (pa_cons (pv 0) (pa_cons (pe_glob (v := .ref c_TworoomsError) (by rfl) gc_TworoomsError rfl) pa_nil))) (pa_cons (pe_callB (call_isP XC hin hz hf) (by rfl) B.isinstance (by decide +kernel) (pa_cons (pv 0) (pa_cons (pe_glob (v := .ref c_BadNumber) (by rfl) gc_BadNumber rfl) pa_nil))) (pa_cons (pe_callB (call_isP XC hin hz hf) (by rfl) B.isinstance (by decide +kernel) (pa_cons (pv 0) (pa_cons (pe_glob (v := .ref c_NoHand) (by rfl) gc_NoHand rfl) pa_nil))) pa_nil))))))
      (pss_cons (ps_set (i := 2) sc_kinds.nd rfl (.inr rfl) (pe_op op_catL (pv 2) (pe_lst (pa_cons (pe_callB (call_isP XC hin hz hf) (by rfl) B.isinstance (by decide +kernel) (pa_cons (pv 0) (pa_cons (pe_glob (v := .ref c_BadName) (by rfl) gc_BadName rfl) pa_nil))) (pa_cons (pe_callB (call_isP XC hin hz hf) (by rfl) B.isinstance (by decide +kernel) (pa_cons (pv 0) (pa_cons (pe_glob (v := .ref c_TooMany) (by rfl) gc_TooMany rfl) pa_nil))) (pa_cons (pe_callB (call_isP XC hin hz hf) (by rfl) B.isinstance (by decide +kernel) (pa_cons (pv 0) (pa_cons (pe_glob (v := .ref c_NoEntry) (by rfl) gc_NoEntry rfl) pa_nil))) (pa_cons (pe_callB (call_isP XC hin hz hf) (by rfl) B.isinstance (by decide +kernel) (pa_cons (pv 0) (pa_cons (pe_glob (v := .ref c_NoPlace) (by rfl) gc_NoPlace rfl) pa_nil))) pa_nil)))))))
      (pss_cons (ps_set (i := 2) sc_kinds.nd rfl (.inr rfl) (pe_op op_catL (pv 2) (pe_lst (pa_cons (pe_callB (call_isP XC hin hz hf) (by rfl) B.isinstance (by decide +kernel) (pa_cons (pv 0) (pa_cons (pe_glob (v := .ref c_SelfTie) (by rfl) gc_SelfTie rfl) pa_nil))) (pa_cons (pe_callB (call_isP XC hin hz hf) (by rfl) B.isinstance (by decide +kernel) (pa_cons (pv 0) (pa_cons (pe_glob (v := .ref c_Repeated) (by rfl) gc_Repeated rfl) pa_nil))) (pa_cons (pe_callB (call_isP XC hin hz hf) (by rfl) B.isinstance (by decide +kernel) (pa_cons (pv 0) (pa_cons (pe_glob (v := .ref c_BadSigns) (by rfl) gc_BadSigns rfl) pa_nil))) (pa_cons (pe_callB (call_isP XC hin hz hf) (by rfl) B.isinstance (by decide +kernel) (pa_cons (pv 0) (pa_cons (pe_glob (v := .ref c_BadText) (by rfl) gc_BadText rfl) pa_nil))) pa_nil)))))))
      (pss_cons (ps_set (i := 2) sc_kinds.nd rfl (.inr rfl) (pe_op op_catL (pv 2) (pe_lst (pa_cons (pe_callB (call_isP XC hin hz hf) (by rfl) B.isinstance (by decide +kernel) (pa_cons (pv 0) (pa_cons (pe_glob (v := .ref c_BadTree) (by rfl) gc_BadTree rfl) pa_nil))) (pa_cons (pe_callB (call_isP XC hin hz hf) (by rfl) B.isinstance (by decide +kernel) (pa_cons (pv 0) (pa_cons (pe_glob (v := .ref c_BadMap) (by rfl) gc_BadMap rfl) pa_nil))) (pa_cons (pe_callB (call_isP XC hin hz hf) (by rfl) B.isinstance (by decide +kernel) (pa_cons (pv 0) (pa_cons (pe_glob (v := .ref c_NotRight) (by rfl) gc_NotRight rfl) pa_nil))) (pa_cons (pe_callB (call_isP XC hin hz hf) (by rfl) B.isinstance (by decide +kernel) (pa_cons (pv 0) (pa_cons (pe_glob (v := .ref c_NoStone) (by rfl) gc_NoStone rfl) pa_nil))) pa_nil)))))))
      (pss_cons (ps_set (i := 2) sc_kinds.nd rfl (.inr rfl) (pe_op op_catL (pv 2) (pe_lst (pa_cons (pe_callB (call_isP XC hin hz hf) (by rfl) B.isinstance (by decide +kernel) (pa_cons (pv 0) (pa_cons (pe_glob (v := .ref c_Stands) (by rfl) gc_Stands rfl) pa_nil))) (pa_cons (pe_callB (call_isP XC hin hz hf) (by rfl) B.isinstance (by decide +kernel) (pa_cons (pv 0) (pa_cons (pe_glob (v := .ref c_Falls) (by rfl) gc_Falls rfl) pa_nil))) (pa_cons (pe_callB (call_isP XC hin hz hf) (by rfl) B.isinstance (by decide +kernel) (pa_cons (pv 0) (pa_cons (pe_glob (v := .ref c_GameOver) (by rfl) gc_GameOver rfl) pa_nil))) (pa_cons (pe_callB (call_isP XC hin hz hf) (by rfl) B.isinstance (by decide +kernel) (pa_cons (pv 0) (pa_cons (pe_glob (v := .ref c_Occupied) (by rfl) gc_Occupied rfl) pa_nil))) pa_nil)))))))
      (pss_cons (ps_set (i := 2) sc_kinds.nd rfl (.inr rfl) (pe_op op_catL (pv 2) (pe_lst (pa_cons (pe_callB (call_isP XC hin hz hf) (by rfl) B.isinstance (by decide +kernel) (pa_cons (pv 0) (pa_cons (pe_glob (v := .ref c_SelfTaking) (by rfl) gc_SelfTaking rfl) pa_nil))) (pa_cons (pe_callB (call_isP XC hin hz hf) (by rfl) B.isinstance (by decide +kernel) (pa_cons (pv 0) (pa_cons (pe_glob (v := .ref c_ComesBack) (by rfl) gc_ComesBack rfl) pa_nil))) (pa_cons (pe_callB (call_isP XC hin hz hf) (by rfl) B.isinstance (by decide +kernel) (pa_cons (pv 0) (pa_cons (pe_glob (v := .ref c_BadDeed) (by rfl) gc_BadDeed rfl) pa_nil))) pa_nil))))))
      (pss_cons (ps_set (i := 2) sc_kinds.nd rfl (.inr rfl) (pe_op op_catL (pv 2) (pe_lst (pa_cons (pe_callB (call_isP XC hin hz hf) (by rfl) B.isinstance (by decide +kernel) (pa_cons (pv 0) (pa_cons (pe_glob (v := .ref c_NothingDone) (by rfl) gc_NothingDone rfl) pa_nil))) (pa_cons (pe_callB (call_isP XC hin hz hf) (by rfl) B.isinstance (by decide +kernel) (pa_cons (pv 0) (pa_cons (pe_glob (v := .ref c_BadRow) (by rfl) gc_BadRow rfl) pa_nil))) pa_nil)))))
      (pss_one (ps_ret (pe_lcH (own := [("k", 3)]) (g := gName 3) (hot_of hot hin) sc_kinds.nd (pi_range1H (by rfl) B.range (pa_cons (pe_callB (call_lenXK (K := K)) (by rfl) B.len PySem.boot_len (pa_cons (pv 1) pa_nil)) pa_nil)) (blkOk_by (own := [("k", 3)]) (N := ["x", "names", "flags", "k"]) (sc := defScope s_kinds) (by decide +kernel)) (fun p hot => ⟨fun _ _ _ _ _ => pg_name (i := 3) sc_kinds.nd rfl (Or.inl rfl), fun _ _ _ _ _ => (pts_one (pt_val (pe_ix (ix_listK (K := K)) (pv 2) (pv 3) (fun _ _ => rfl)))), fun _ _ _ _ _ => (pe_ix (ix_listK (K := K)) (pv 1) (pv 3) (fun _ _ => rfl))⟩)))))))))))))), ?_⟩
    generalize hX : cxH CX0 P w K mg base ["x", "names", "flags", "k"] "_law_kinds" (defScope s_kinds) f cdv A outer s H E p = X at hin ⊢
    have hK : X.K = K := by rw [← hX]; rfl
    rw [hK]
    walk_at "st"
    walk_at "st"
    refine ⟨by decide +kernel, ?_⟩
    walk_at "st"
    refine ⟨by decide +kernel, by decide +kernel, by decide +kernel, fun p1 n1 => ?_⟩
    rw [split_names]
    have hd : ∀ {H' : Hp}, (∀ b o, H b = some o → H' b = some o) → ∀ d, some dx = some d → ∃ fs, H' d = some (.xd fs) := fun k d e => by
      cases e
      exact ⟨fs, k _ _ hdx⟩
    obtain ⟨H1, e1⟩ : ∃ z, z = L2.upd H p1 (.lst ((("ValueError" :: excs).map Str.ofString).map V.str)) := ⟨_, rfl⟩
    have k1 : ∀ b o, H b = some o → H1 b = some o := e1 ▸ But0.new n1
    have h1 : H1 p1 = some (.lst ((("ValueError" :: excs).map Str.ofString).map V.str)) := e1 ▸ upd_same
    rw [← e1]
    walk_at "st"
    refine r_isV kv (hd k1) (r_isP k_TworoomsError (hd k1) (r_isP k_BadNumber (hd k1) (r_isP k_NoHand (hd k1) ⟨by decide, fun p2 n2 => ?_⟩)))
    obtain ⟨H2, e2⟩ : ∃ z, z = L2.upd H1 p2 (.lst [.bl (flg y "ValueError"), .bl (flg y "TworoomsError"), .bl (flg y "BadNumber"), .bl (flg y "NoHand")]) := ⟨_, rfl⟩
    have k2 : ∀ b o, H b = some o → H2 b = some o := e2 ▸ fun b o z => But0.new n2 b o (k1 b o z)
    have h2 : H2 p1 = some (.lst ((("ValueError" :: excs).map Str.ofString).map V.str)) := e2 ▸ But0.new n2 _ _ h1
    have f2 : H2 p2 = some (.lst [.bl (flg y "ValueError"), .bl (flg y "TworoomsError"), .bl (flg y "BadNumber"), .bl (flg y "NoHand")]) := e2 ▸ upd_same
    rw [← e2]
    walk_at "st"
    refine r_isP k_BadName (hd k2) (r_isP k_TooMany (hd k2) (r_isP k_NoEntry (hd k2) (r_isP k_NoPlace (hd k2) ?_)))
    refine flag_step (gl := [.bl (flg y "BadName"), .bl (flg y "TooMany"), .bl (flg y "NoEntry"), .bl (flg y "NoPlace")]) k2 h2 f2 (Nat.le_of_ble_eq_true rfl) fun p3 H3 k3 h3 f3 => ?_
    walk_at "st"
    refine r_isP k_SelfTie (hd k3) (r_isP k_Repeated (hd k3) (r_isP k_BadSigns (hd k3) (r_isP k_BadText (hd k3) ?_)))
    refine flag_step (gl := [.bl (flg y "SelfTie"), .bl (flg y "Repeated"), .bl (flg y "BadSigns"), .bl (flg y "BadText")]) k3 h3 f3 (Nat.le_of_ble_eq_true rfl) fun p4 H4 k4 h4 f4 => ?_
    walk_at "st"
    refine r_isP k_BadTree (hd k4) (r_isP k_BadMap (hd k4) (r_isP k_NotRight (hd k4) (r_isP k_NoStone (hd k4) ?_)))
    refine flag_step (gl := [.bl (flg y "BadTree"), .bl (flg y "BadMap"), .bl (flg y "NotRight"), .bl (flg y "NoStone")]) k4 h4 f4 (Nat.le_of_ble_eq_true rfl) fun p5 H5 k5 h5 f5 => ?_
    walk_at "st"
    refine r_isP k_Stands (hd k5) (r_isP k_Falls (hd k5) (r_isP k_GameOver (hd k5) (r_isP k_Occupied (hd k5) ?_)))
    refine flag_step (gl := [.bl (flg y "Stands"), .bl (flg y "Falls"), .bl (flg y "GameOver"), .bl (flg y "Occupied")]) k5 h5 f5 (Nat.le_of_ble_eq_true rfl) fun p6 H6 k6 h6 f6 => ?_
    walk_at "st"
    refine r_isP k_SelfTaking (hd k6) (r_isP k_ComesBack (hd k6) (r_isP k_BadDeed (hd k6) ?_))
    refine flag_step (gl := [.bl (flg y "SelfTaking"), .bl (flg y "ComesBack"), .bl (flg y "BadDeed")]) k6 h6 f6 (Nat.le_of_ble_eq_true rfl) fun p7 H7 k7 h7 f7 => ?_
    walk_at "rt"
    refine r_seqT fun T hT => ?_
    walk_at "rt"
    refine r_isP k_NothingDone (hd k7) (r_isP k_BadRow (hd k7) ?_)
    refine flag_step (gl := [.bl (flg y "NothingDone"), .bl (flg y "BadRow")]) k7 h7 f7 (Nat.le_of_ble_eq_true rfl) fun p10 H10 k10 h10 f10 => hT _ _ ?_
    have f10 : H10 p10 = some (.lst (("ValueError" :: excs).map fun x => V.bl (flg y x))) := f10
    walk_at "rt"
    refine ⟨_, .inl (sq_of h10), by simp only [List.length_map]; decide, by simp only [List.length_map]; decide, fun p11 n11 => ?_⟩
    refine fin_kinds k10 h10 f10 n11 q
end
end K01
namespace K01
open PySem PySem.Spec PyProof.Rows L2 TL HotExc Tw WX
local macro_rules | `(tactic| walk_at "rd") => `(tactic| simp only [start1, wipe, isR, isBool, isInt, isStr, isLst, isTup, tAsg, gName, gSub, tVar, tC, tOp, tUn, tTest, tIfS, tRet, tRetN, tDrop, tB, tAnd, tOr, tNot, tAndV, tOrV, tNotV, tIf, tCB, tCons, tNil, tNext, tCall, tBM, tTup, tLst, rU, rInW, rNinW, Int.reduceNeg, tG, tG2, sP, tFldC, sFldC, tProp, tMeth, tMake, rOwnC, rLenO, rIsC, rNoT, tAddT, tSAddK, rSAddK, rSInK, rSet0K, rSet0T, rMinS, rMaxS, rSortedQ, rSortedT, rEqD, rNeD, rIxD, dcL_eq, dcZ_eq, lcO_eq, forE_eq, forT_eq, lcS_eq, ItX.rIterN, iOwn, List.append_nil, tDisp, tPairs, tCallS, tCallSD, tCallT, StX.tStar, tCallK, tCallKS, rTupOf, tDrop, rI0, rI, rEq, rNe, scal, forR_eq, forR2_eq, forS_eq, forL_eq, lcT_eq, lcRT_eq, lcS_eq, rLenX, rLenS, rListOf, tRevL, rMulS, rRepL, rCatL, rSumN, rMaxN, tBM0, rPop, tAug, ipI,  tPart, tNoPart, CwR.tReplC, rAllK, rInSg, rNinSg, sgn_inj, rAddS, rInSt, tChain, tM1, tM0, rSplitN, rJoinN, exists_eq, rIntI, rIntB, rIntS, rStrI, rAbs, rOrd, rMin, rMax, rIxL, rIxX, rSetL, rAppend, rIxS, rSlS, rSlL, tSl, List.map_cons, List.map_nil, List.replicate_succ, List.replicate_zero, List.length_cons, List.length_nil, Nat.reduceSub, Nat.reduceAdd, Nat.zero_add, Nat.sub_self, List.getElem?_cons_zero, List.getElem?_cons_succ, List.set_cons_zero, List.set_cons_succ, List.append_nil, List.nil_append, List.cons_append, Option.some.injEq, not_true_eq_false, reduceCtorEq, exists_eq_left', exists_eq_left, exists_eq', exists_and_left, exists_and_right, V.int.injEq, V.str.injEq, V.bl.injEq, V.ref.injEq, List.cons.injEq, and_true, true_and, and_assoc, decide_eq_true_eq, Bool.not_eq_true', decide_eq_false_iff_not, ite_true, ite_false, if_true, if_false, Bool.not_true, Bool.not_false, Bool.false_eq_true, eq_self_iff_true, reduceIte, ne_eq, Int.reduceEq, not_false_eq_true])
local macro_rules | `(tactic| walk_at "rt") => `(tactic| try walk_at "rd")
local macro_rules | `(tactic| walk_at "st") => `(tactic| (walk_at "rt"; refine r_seq ?_; walk_at "rt"))
local macro_rules | `(tactic| walk_at "hp") => `(tactic| first | assumption | exact upd_same | (rw [upd_ne (by assumption)]; walk_at "hp"))
local macro_rules | `(tactic| walk_at "ex1") => `(tactic| ((with_reducible refine Exists.intro ?w (And.intro ?hx ?_)); (case hx => first | exact sq_of (by walk_at "hp") | exact .inl (sq_of (by walk_at "hp")) | exact rfl | (show _ = some (HO.lst _); walk_at "hp"))))
local macro_rules | `(tactic| walk_at "ex") => `(tactic| repeat (first | walk_at "ex1" | walk_at "rd"))
abbrev s_like : Stmt := topS 64
theorem sc_like : FnScope ["one", "two", "k"] ["one", "two"] (defScope s_like) := ⟨rfl, rfl, rfl, by decide +kernel, rfl, by decide +kernel, by decide +kernel⟩
/-- data one of another -/
def spLike : Nat → Sp
  | 0 => fun _ _ _ _ => False
  | n + 1 => fun vs H Q _ => ∃ (x y : V) (A B : Addr → Prop) (d : Dat), vs = [x, y] ∧ At H A d x ∧ At H B d y ∧ d.dep ≤ n ∧ ∀ H', Keeps H H' → Q (.bl true) H'
theorem At.keepA {H H' : Hp} {A : Addr → Prop} {d : Dat} {x : V} (h : At H A d x) (k : Keeps H H') : At H' A d x := At.mono (fun _ h => h) (fun p o _ h => k p o h) _ _ h
theorem all_true (i : Nat) : (List.replicate i true).all id = true := by
  rw [List.all_eq_true]
  intro x hx
  rw [List.mem_replicate] at hx
  exact hx.2
/-- the rows of two alike -/
theorem like_rows {K : PySem.W.Frag} {n : Nat} {H : Hp} {A1 A2 : Addr → Prop} {l : List Dat} {a b : Addr} {xs ys : List V} {Q : VK} (La : AtL H A1 l xs) (Lb : AtL H A2 l ys) (hl : xs.length ≤ 1000000) (hm : ys.length ≤ 1000000) (hn : depL l + 1 ≤ n)
    (sa : ∀ H', Keeps H H' → SqL K H' a xs ∨ SqT K H' a xs) (sb : ∀ H', Keeps H H' → SqL K H' b ys ∨ SqT K H' b ys) (q : ∀ H', Keeps H H' → Q (.bl true) H') :
    ∃ us, (SqL K H a us ∨ SqT K H a us) ∧ ∃ ws, (SqL K H b ws ∨ SqT K H b ws) ∧ if (us.length : Int) = ws.length then ∃ us, (SqL K H a us ∨ SqT K H a us) ∧ -2 ^ 62 ≤ (us.length : Int) ∧ (us.length : Int) < 2 ^ 62 ∧ ∀ D, H D = none →
      LcT (Itr 0 (us.length : Int).toNat) (gName 2) tYes (tCall (spLike n) [] E0 (tCons (tOp (rIxX K) (tVar 0) (tVar 2)) (tCons (tOp (rIxX K) (tVar 1) (tVar 2)) tNil))) [2] [some (V.ref a), some (V.ref b), none] H D fun H1 => ∃ bs, SqL K H1 D (List.map V.bl bs) ∧ Q (V.bl (bs.all id)) H1
    else Q (V.bl false) H := by
  have ela := La.length
  have elb := Lb.length
  have id0 := Keeps.refl H
  refine ⟨xs, sa H id0, ys, sb H id0, ?_⟩
  rw [if_pos (by omega)]
  refine ⟨xs, sa H id0, by omega, by omega, fun Dd nD => ?_⟩
  refine r_lcRT (n := ((xs.length : Int)).toNat) (fun i H' => Keeps H H' ∧ H' Dd = some (.lst ((List.replicate i true).map V.bl))) (fun _ => rfl) ⟨Keeps.new nD, upd_same⟩ ?_ ?_
  · rintro i H' hi ⟨k, hD⟩ N M kN _
    have hi : i < xs.length := by omega
    simp only [tYes, if_pos]
    obtain ⟨d, hd⟩ : ∃ d, l[i]? = some d := ⟨_, List.getElem?_eq_getElem (by omega)⟩
    obtain ⟨v, hv, av⟩ := AtL.get l xs i d La hd
    obtain ⟨u, hu, au⟩ := AtL.get l ys i d Lb hd
    have a1 : atI xs (0 + (i : Int)) = some v := by rw [Int.zero_add]; exact atI_nat hv
    have a2 : atI ys (0 + (i : Int)) = some u := by rw [Int.zero_add]; exact atI_nat hu
    walk_at "rt"
    refine ⟨_, sa _ k, _, a1, _, sb _ k, _, a2, ?_⟩
    cases n with
    | zero => omega
    | succ n =>
      have hdep := dep_get l i d hd
      refine ⟨v, u, A1, A2, d, rfl, At.keepA av k, At.keepA au k, by omega, fun H2 k2 => kN _ H2 _ (k2 _ _ hD) (size_ok (by rw [List.length_map, List.length_replicate]; omega)) ⟨(k.trans k2).put nD, ?_⟩⟩
      rw [upd_same, List.replicate_succ', List.map_append]
      rfl
  · rintro H' ⟨k, hD⟩
    refine ⟨_, sq_of hD, ?_⟩
    rw [all_true]
    exact q H' k
section
variable {P : Program} {w : World} {K : PySem.W.Frag} {mg : Str → Option Value} {base : Heap}
theorem ok_like {f : Addr} {fd : FuncData} (B : Bi mg) (D : Dn K mg "_law_like" s_like ["one", "two"] f fd) (D_like : Dn K mg "_law_like" s_like ["one", "two"] f fd) (n k : Nat)
    (G_like : FnOk P w K mg base CX0 (k + 1) f fd ["one", "two"] (spLike n)) : FnOk P w K mg base CX0 (k + 2) f fd ["one", "two"] (spLike (n + 1)) := by
  refine D.F.ok sc_like (fun vs H Q E h => ?_) (fun cdv A outer s H vs Q E hr h => ?_)
  · obtain ⟨x, y, A, B, d, rfl, _⟩ := h
    rfl
  · obtain ⟨x, y, A1, A2, d, rfl, hd, hd2, hn, q⟩ := h
    refine ⟨_, (pss_cons (ps_if (PW.pt (pw_or (pt_val (pe_callB call_is_bool (by rfl) B.isinstance (by decide +kernel) (pa_cons (pv 0) (pa_cons (pe_bltn (v := .ty "bool") (by rfl) B.bool_ (by decide +kernel) rfl) pa_nil)))) (pw_or (pt_val (pe_callB call_is_bool (by rfl) B.isinstance (by decide +kernel) (pa_cons (pv 1) (pa_cons (pe_bltn (v := .ty "bool") (by rfl) B.bool_ (by decide +kernel) rfl) pa_nil)))) (pw_or (pt_cmpR op_isN (pv 0) pe_non (nomark _)) (pw_or1 (pt_cmpR op_isN (pv 1) pe_non (nomark _))))))) (pss_one (ps_ret (pe_and (pe_cmpR op_eq (pe_callB call_is_bool (by rfl) B.isinstance (by decide +kernel) (pa_cons (pv 0) (pa_cons (pe_bltn (v := .ty "bool") (by rfl) B.bool_ (by decide +kernel) rfl) pa_nil))) (pe_callB call_is_bool (by rfl) B.isinstance (by decide +kernel) (pa_cons (pv 1) (pa_cons (pe_bltn (v := .ty "bool") (by rfl) B.bool_ (by decide +kernel) rfl) pa_nil))) (nomark _)) (pe_and (pe_cmpR op_eq (pe_cmpR op_isN (pv 0) pe_non (nomark _)) (pe_cmpR op_isN (pv 1) pe_non (nomark _)) (nomark _)) (pe_one (pe_cmpR op_eq (pv 0) (pv 1) (nomark _))))))) pss_nil)
      (pss_cons (ps_if (PW.pt (pw_or (pt_val (pe_callB call_is_int (by rfl) B.isinstance (by decide +kernel) (pa_cons (pv 0) (pa_cons (pe_bltn (v := .ty "int") (by rfl) B.int_ (by decide +kernel) rfl) pa_nil)))) (pw_or1 (pt_val (pe_callB call_is_int (by rfl) B.isinstance (by decide +kernel) (pa_cons (pv 1) (pa_cons (pe_bltn (v := .ty "int") (by rfl) B.int_ (by decide +kernel) rfl) pa_nil))))))) (pss_one (ps_ret (pe_and (pe_callB call_is_int (by rfl) B.isinstance (by decide +kernel) (pa_cons (pv 0) (pa_cons (pe_bltn (v := .ty "int") (by rfl) B.int_ (by decide +kernel) rfl) pa_nil))) (pe_and (pe_callB call_is_int (by rfl) B.isinstance (by decide +kernel) (pa_cons (pv 1) (pa_cons (pe_bltn (v := .ty "int") (by rfl) B.int_ (by decide +kernel) rfl) pa_nil))) (pe_one (pe_cmpR op_eq (pv 0) (pv 1) (nomark _))))))) pss_nil)
      (pss_cons (ps_if (PW.pt (pw_or (pt_val (pe_callB call_is_str (by rfl) B.isinstance (by decide +kernel) (pa_cons (pv 0) (pa_cons (pe_bltn (v := .ty "str") (by rfl) B.str_ (by decide +kernel) rfl) pa_nil)))) (pw_or1 (pt_val (pe_callB call_is_str (by rfl) B.isinstance (by decide +kernel) (pa_cons (pv 1) (pa_cons (pe_bltn (v := .ty "str") (by rfl) B.str_ (by decide +kernel) rfl) pa_nil))))))) (pss_one (ps_ret (pe_and (pe_callB call_is_str (by rfl) B.isinstance (by decide +kernel) (pa_cons (pv 0) (pa_cons (pe_bltn (v := .ty "str") (by rfl) B.str_ (by decide +kernel) rfl) pa_nil))) (pe_and (pe_callB call_is_str (by rfl) B.isinstance (by decide +kernel) (pa_cons (pv 1) (pa_cons (pe_bltn (v := .ty "str") (by rfl) B.str_ (by decide +kernel) rfl) pa_nil))) (pe_one (pe_cmpR op_eq (pv 0) (pv 1) (nomark _))))))) pss_nil)
      (pss_cons (ps_if (PW.pt (pw_or (PW.pt (pw_and (pt_val (pe_callB call_is_list (by rfl) B.isinstance (by decide +kernel) (pa_cons (pv 0) (pa_cons (pe_bltn (v := .ty "list") (by rfl) B.list_ (by decide +kernel) rfl) pa_nil)))) (pw_and1 (pt_val (pe_callB call_is_list (by rfl) B.isinstance (by decide +kernel) (pa_cons (pv 1) (pa_cons (pe_bltn (v := .ty "list") (by rfl) B.list_ (by decide +kernel) rfl) pa_nil))))))) (pw_or1 (PW.pt (pw_and (pt_val (pe_callB call_is_tuple (by rfl) B.isinstance (by decide +kernel) (pa_cons (pv 0) (pa_cons (pe_bltn (v := .ty "tuple") (by rfl) B.tuple_ (by decide +kernel) rfl) pa_nil)))) (pw_and1 (pt_val (pe_callB call_is_tuple (by rfl) B.isinstance (by decide +kernel) (pa_cons (pv 1) (pa_cons (pe_bltn (v := .ty "tuple") (by rfl) B.tuple_ (by decide +kernel) rfl) pa_nil)))))))))) (pss_one (ps_ret (pe_and (pe_cmpR op_eq (pe_callB (call_lenXK (K := K)) (by rfl) B.len PySem.boot_len (pa_cons (pv 0) pa_nil)) (pe_callB (call_lenXK (K := K)) (by rfl) B.len PySem.boot_len (pa_cons (pv 1) pa_nil)) (nomark _)) (pe_one (pe_callB (call_allK (K := K)) (by rfl) B.all (by decide +kernel) (pa_cons (pe_lc (own := [("k", 2)]) (g := gName 2) (tt := tYes) (by rfl) sc_like.nd (pi_range1 (by rfl) B.range (pa_cons (pe_callB (call_lenXK (K := K)) (by rfl) B.len PySem.boot_len (pa_cons (pv 0) pa_nil)) pa_nil)) (blkOk_by (own := [("k", 2)]) (N := ["one", "two", "k"]) (sc := defScope s_like) (by decide +kernel)) (fun _ _ _ _ _ => pg_name (i := 2) sc_like.nd rfl (Or.inl rfl)) (fun _ _ _ _ _ => pts_nil) (fun _ _ _ _ _ => (pe_call G_like (hr.mono (by omega)) (by rfl) D_like.g D_like.F.kp D_like.b .nil pass0 (pa_cons (pe_ix (ix_sxK (K := K)) (pv 0) (pv 2) (fun _ _ => rfl)) (pa_cons (pe_ix (ix_sxK (K := K)) (pv 1) (pv 2) (fun _ _ => rfl)) pa_nil))))) pa_nil)))))) pss_nil)
      (pss_one (ps_ret pe_bl)))))), ?_⟩
    have hd' := hd
    have hd2' := hd2
    rcases d with _ | b | i | z | l | l
    case non =>
      simp only [At] at hd hd2
      subst hd hd2
      walk_at "st"
      refine ⟨A1, _, hd', ?_⟩
      walk_at "rt"
      refine ⟨A2, _, hd2', ?_⟩
      walk_at "rt"
      refine ⟨A1, _, hd', A2, _, hd2', ?_⟩
      exact q H (Keeps.refl _)
    case bl =>
      simp only [At] at hd hd2
      subst hd hd2
      walk_at "st"
      refine ⟨A1, _, hd', ?_⟩
      walk_at "rt"
      refine ⟨A1, _, hd', A2, _, hd2', ?_⟩
      exact q H (Keeps.refl _)
    case int =>
      simp only [At] at hd hd2
      subst hd hd2
      walk_at "st"
      refine ⟨A1, _, hd', ?_⟩
      walk_at "rt"
      refine ⟨A2, _, hd2', ?_⟩
      walk_at "st"
      refine ⟨A1, _, hd', ?_⟩
      walk_at "rt"
      refine ⟨A1, _, hd', ?_⟩
      walk_at "rt"
      refine ⟨A2, _, hd2', ?_⟩
      exact q H (Keeps.refl _)
    case str =>
      simp only [At] at hd hd2
      subst hd hd2
      walk_at "st"
      refine ⟨A1, _, hd', ?_⟩
      walk_at "rt"
      refine ⟨A2, _, hd2', ?_⟩
      walk_at "st"
      refine ⟨A1, _, hd', ?_⟩
      walk_at "rt"
      refine ⟨A2, _, hd2', ?_⟩
      walk_at "st"
      refine ⟨A1, _, hd', ?_⟩
      walk_at "rt"
      refine ⟨A1, _, hd', ?_⟩
      walk_at "rt"
      refine ⟨A2, _, hd2', ?_⟩
      exact q H (Keeps.refl _)
    case lst =>
      obtain ⟨a, xs, rfl, _, hx, hl, La⟩ := hd
      obtain ⟨b, ys, rfl, _, hy, hm, Lb⟩ := hd2
      have sa : ∀ H', Keeps H H' → SqL K H' a xs ∨ SqT K H' a xs := fun H' k => .inl (sq_of (k _ _ hx))
      have sb : ∀ H', Keeps H H' → SqL K H' b ys ∨ SqT K H' b ys := fun H' k => .inl (sq_of (k _ _ hy))
      walk_at "st"
      refine ⟨A1, _, hd', ?_⟩
      walk_at "rt"
      refine ⟨A2, _, hd2', ?_⟩
      walk_at "st"
      refine ⟨A1, _, hd', ?_⟩
      walk_at "rt"
      refine ⟨A2, _, hd2', ?_⟩
      walk_at "st"
      refine ⟨A1, _, hd', ?_⟩
      walk_at "rt"
      refine ⟨A2, _, hd2', ?_⟩
      walk_at "st"
      refine ⟨A1, _, hd', ?_⟩
      walk_at "rt"
      refine ⟨A2, _, hd2', ?_⟩
      walk_at "rt"
      exact like_rows La Lb hl hm (by rw [Dat.dep] at hn; exact hn) sa sb q
    case tup =>
      obtain ⟨a, xs, rfl, _, hx, hl, La⟩ := hd
      obtain ⟨b, ys, rfl, _, hy, hm, Lb⟩ := hd2
      have sa : ∀ H', Keeps H H' → SqL K H' a xs ∨ SqT K H' a xs := fun H' k => .inr (tup_at (k _ _ hx))
      have sb : ∀ H', Keeps H H' → SqL K H' b ys ∨ SqT K H' b ys := fun H' k => .inr (tup_at (k _ _ hy))
      walk_at "st"
      refine ⟨A1, _, hd', ?_⟩
      walk_at "rt"
      refine ⟨A2, _, hd2', ?_⟩
      walk_at "st"
      refine ⟨A1, _, hd', ?_⟩
      walk_at "rt"
      refine ⟨A2, _, hd2', ?_⟩
      walk_at "st"
      refine ⟨A1, _, hd', ?_⟩
      walk_at "rt"
      refine ⟨A2, _, hd2', ?_⟩
      walk_at "st"
      refine ⟨A1, _, hd', ?_⟩
      walk_at "rt"
      refine ⟨A1, _, hd', ?_⟩
      walk_at "rt"
      refine ⟨A2, _, hd2', ?_⟩
      walk_at "rt"
      exact like_rows La Lb hl hm (by rw [Dat.dep] at hn; exact hn) sa sb q
theorem ok_like0 {f : Addr} {fd : FuncData} (B : Bi mg) (D : Dn K mg "_law_like" s_like ["one", "two"] f fd) : FnOk P w K mg base CX0 1 f fd ["one", "two"] (spLike 0) :=
  D.F.ok sc_like (fun vs H Q E h => h.elim) (fun cdv A outer s H vs Q E hr h => h.elim)
theorem like_all {f : Addr} {fd : FuncData} (B : Bi mg) (D : Dn K mg "_law_like" s_like ["one", "two"] f fd) : ∀ n : Nat, FnOk P w K mg base CX0 (n + 1) f fd ["one", "two"] (spLike n)
  | 0 => ok_like0 B D
  | n + 1 => ok_like B D D n n (like_all B D n)
end
end K01
namespace K01
open PySem PySem.Spec PyProof.Rows L2 TL HotExc L2H HotLc Tw WX
local macro_rules | `(tactic| walk_at "rd") => `(tactic| simp only [start1, tMethP, tG1, rSetOfS, tDisp, tPairs, rSInK, tAug, ipI, wipe, isR, isBool, isInt, isStr, isLst, isTup, tAsg, gName, gSub, tVar, tC, tOp, tUn, tTest, tIfS, tRet, tRetN, tDrop, tB, tAnd, tOr, tNot, tAndV, tOrV, tNotV, tIf, tCB, tCons, tNil, tNext, tCall, tBM, tTup, tLst, rU, rInW, rNinW, Int.reduceNeg, tG, tG2, sP, tFldC, sFldC, tProp, tMeth, tMake, rOwnC, rLenO, rIsC, rNoT, tAddT, tSAddK, rSAddK, rSInK, rSet0K, rSet0T, rMinS, rMaxS, rSortedQ, rSortedT, rEqD, rNeD, rIxD, dcL_eq, dcZ_eq, lcO_eq, forE_eq, forT_eq, lcS_eq, ItX.rIterN, iOwn, List.append_nil, tDisp, tPairs, tCallS, tCallSD, tCallT, StX.tStar, tCallK, tCallKS, rTupOf, tDrop, rI0, rI, rEq, rNe, scal, forR_eq, forR2_eq, forS_eq, forL_eq, lcT_eq, lcRT_eq, lcS_eq, rLenX, rLenS, rListOf, tRevL, rMulS, rRepL, rCatL, rSumN, rMaxN, tBM0, rPop, tAug, ipI,  tPart, tNoPart, CwR.tReplC, rAllK, rInSg, rNinSg, sgn_inj, rAddS, rInSt, tChain, tM1, tM0, rSplitN, rJoinN, exists_eq, rIntI, rIntB, rIntS, rStrI, rAbs, rOrd, rMin, rMax, rIxL, rIxX, rSetL, rAppend, rIxS, rSlS, rSlL, tSl, List.map_cons, List.map_nil, List.replicate_succ, List.replicate_zero, List.length_cons, List.length_nil, Nat.reduceSub, Nat.reduceAdd, Nat.zero_add, Nat.sub_self, List.getElem?_cons_zero, List.getElem?_cons_succ, List.set_cons_zero, List.set_cons_succ, List.append_nil, List.nil_append, List.cons_append, Option.some.injEq, not_true_eq_false, reduceCtorEq, exists_eq_left', exists_eq_left, exists_eq', exists_and_left, exists_and_right, V.int.injEq, V.str.injEq, V.bl.injEq, V.ref.injEq, List.cons.injEq, and_true, true_and, and_assoc, decide_eq_true_eq, Bool.not_eq_true', decide_eq_false_iff_not, ite_true, ite_false, if_true, if_false, Bool.not_true, Bool.not_false, Bool.false_eq_true, eq_self_iff_true, reduceIte, ne_eq, Int.reduceEq, not_false_eq_true])
local macro_rules | `(tactic| walk_at "rt") => `(tactic| try walk_at "rd")
local macro_rules | `(tactic| walk_at "st") => `(tactic| (walk_at "rt"; refine r_seq ?_; walk_at "rt"))
local macro_rules | `(tactic| walk_at "hp") => `(tactic| first | assumption | exact upd_same | (rw [upd_ne (by assumption)]; walk_at "hp"))
local macro_rules | `(tactic| walk_at "ex1") => `(tactic| ((with_reducible refine Exists.intro ?w (And.intro ?hx ?_)); (case hx => first | exact sq_of (by walk_at "hp") | exact .inl (sq_of (by walk_at "hp")) | exact rfl | (show _ = some (HO.lst _); walk_at "hp"))))
local macro_rules | `(tactic| walk_at "ex") => `(tactic| repeat (first | walk_at "ex1" | walk_at "rd"))
abbrev s_due : Stmt := topS 66
theorem sc_due : FnScope ["kind", "values"] ["kind", "values"] (defScope s_due) := ⟨rfl, rfl, rfl, by decide +kernel, rfl, by decide +kernel, by decide +kernel⟩
/-- kinds(e), e the exception in slot i -/
def tKinds (D : Addr) (y : String) (a : Addr) (cls : Value) (d : Option Addr) (i : Nat) : TE := fun σ H Q => σ[i]? = some (some (.ref a)) ∧ cls = .ref D ∧ ∃ dx fs, d = some dx ∧ H dx = some (.xd fs) ∧
  ∀ l H', (∀ b o, H b = some o → H' b = some o) → H' l = some (.lst ((told y).map fun x => V.str (Str.ofString x))) → Q (.ref l) H'
theorem pe_kinds {X : Cx} {D f : Addr} {fd : FuncData} {y : String} {a : Addr} {oe : Obj} {cls : Value} {d : Option Addr} {pn : List (Addr × Obj)} {q1 q2 pos : Pos} {x : Str} {i : Nat} (F : FnE X.prog X.w X.K X.mg X.base CX0 1 f fd ["x"] (spKinds X.K D y)) (room : Room 1 X.A) (hz : L2N.Zn cls d oe) (hf : ∃ vs, oe.data = .fields vs)
    (hg : Gl X "_law_kinds") (hm : X.mg "_law_kinds" = some (.ref f)) (hk : PySem.W.keepIn X.K (.ref f) = true) (hb : Binds X.K fd ["x"] []) (hv : PE (X.suite a ((a, oe) :: pn)) (.Name x q1) (tVar i)) (hst : starEach [.Name x q1] X.env = [(false, eval (.Name x q1) X.env)] := by rfl) :
    PE (X.suite a ((a, oe) :: pn)) (.Call (.Name "_law_kinds" q2) [.Name x q1] [] pos) (tKinds D y a cls d i) := by
  have hot : Hot1 (X.suite a ((a, oe) :: pn)).A (a, oe) := by
    obtain ⟨us, hu⟩ := hf
    exact ⟨rfl, us, hu, hz.2.2 us hu⟩
  refine pe_imp (pe_callE (X := X.suite a ((a, oe) :: pn)) (E := fun _ _ _ _ => False) F ⟨room.dp, room.un⟩ hot List.mem_cons_self hg hm hk hb (fun σ pins H s e s' I c => False.elim c) (pa_cons hv pa_nil) (by decide) hst rfl) ?_
  rintro σ H Q ⟨h1, h2, dx, fs, h3, h4, q⟩
  exact ⟨_, h1, rfl, dx, fs, h4, by rw [← h2, ← h3]; exact hz.zc, hf, q⟩
/-! ### what a try tells -/
abbrev All : Addr → Prop := fun _ => True
def dStrs (l : List Str) : Dat := .lst (l.map Dat.str)
def dRaised (kind : Str) (ds : List Dat) : Dat := .tup [.str (Str.ofString "raised"), .tup ds, dStrs [Str.ofString "ValueError", Str.ofString "TworoomsError", kind]]
def dGave (d : Dat) : Dat := .tup [.str (Str.ofString "gave"), d]
theorem atl_strs {H : Hp} {A : Addr → Prop} : ∀ l : List Str, AtL H A (l.map Dat.str) (l.map V.str)
  | [] => rfl
  | _ :: l => ⟨_, _, rfl, rfl, atl_strs l⟩
theorem at_strs {H : Hp} {a : Addr} {l : List Str} (h : H a = some (.lst (l.map V.str))) (hl : l.length ≤ 1000000) : At H All (dStrs l) (.ref a) := at_lst h (by rw [List.length_map]; exact hl) (atl_strs l)
theorem atl_one {H : Hp} {A : Addr → Prop} {d : Dat} {v : V} (h : At H A d v) : AtL H A [d] [v] := ⟨v, [], rfl, h, rfl⟩
theorem told3 {y : String} (h : told y = ["ValueError", "TworoomsError", y]) : (told y).map (fun x => V.str (Str.ofString x)) = [Str.ofString "ValueError", Str.ofString "TworoomsError", Str.ofString y].map V.str := by rw [h]; rfl
/-- what was raised, put together -/
theorem at_raised {H : Hp} {r t l : Addr} {y : String} {ds : List Dat} {vs : List V} (e : told y = ["ValueError", "TworoomsError", y]) (h1 : H r = some (.tup [.str (Str.ofString "raised"), .ref t, .ref l])) (h2 : H t = some (.tup vs)) (hv : AtL H All ds vs) (few : vs.length ≤ 1000000) (h3 : H l = some (.lst ((told y).map fun x => V.str (Str.ofString x)))) : At H All (dRaised (Str.ofString y) ds) (.ref r) := by
  rw [told3 e] at h3
  exact at_tup h1 (Nat.le_of_ble_eq_true rfl) (atl_cons rfl (atl_cons (at_tup h2 few hv) (atl_one (at_strs h3 (Nat.le_of_ble_eq_true rfl)))))
def spDue : Sp := fun vs H Q _ => ∃ (y : Str) (t : Addr) (us : List V) (ds : List Dat), vs = [.str y, .ref t] ∧ H t = some (.tup us) ∧ AtL H All ds us ∧ us.length ≤ 1000000 ∧ ∀ r H', Keeps H H' → At H' All (dRaised y ds) (.ref r) → Q (.ref r) H'
section
variable {P : Program} {w : World} {K : PySem.W.Frag} {mg : Str → Option Value} {base : Heap}
theorem AtL.keepA {H H' : Hp} {A : Addr → Prop} {ds : List Dat} {xs : List V} (h : AtL H A ds xs) (k : Keeps H H') : AtL H' A ds xs := AtL.mono (fun _ h => h) (fun p o _ h => k p o h) _ _ h
theorem ok_due {f : Addr} {fd : FuncData} (D : Dn K mg "_law_due" s_due ["kind", "values"] f fd) : FnOk P w K mg base CX0 1 f fd ["kind", "values"] spDue := by
  refine D.F.ok sc_due (fun vs H Q E h => ?_) (fun cdv A outer s H vs Q E hr h => ?_)
  · obtain ⟨y, t, us, ds, rfl, _⟩ := h
    rfl
  · obtain ⟨y, t, us, ds, rfl, ht, hd, few, q⟩ := h
    refine ⟨_, (pss_one (ps_ret (pe_tup (pa_cons pe_str (pa_cons (pv 1) (pa_cons (pe_lst (pa_cons pe_str (pa_cons pe_str (pa_cons (pv 0) pa_nil)))) pa_nil)))))), ?_⟩
    walk_at "rt"
    refine ⟨Nat.le_of_ble_eq_true rfl, fun l nl => ⟨Nat.le_of_ble_eq_true rfl, fun r nr => q r _ ((Keeps.new nl).put (Keeps.free (Keeps.new nl) nr)) ?_⟩⟩
    have k := (Keeps.new (x := .lst [.str (Str.ofString "ValueError"), .str (Str.ofString "TworoomsError"), .str y]) nl).trans (Keeps.new (x := .tup [.str (Str.ofString "raised"), .ref t, .ref l]) nr)
    exact at_tup upd_same (Nat.le_of_ble_eq_true rfl) (atl_cons rfl (atl_cons (at_tup (k _ _ ht) few (hd.keepA k)) (atl_one (at_strs (l := [Str.ofString "ValueError", Str.ofString "TworoomsError", y]) (But0.new nr _ _ upd_same) (Nat.le_of_ble_eq_true rfl)))))
theorem lk_at {v : V} {s : Str} : ([(s, v)] : List (Str × V)).lookup s = some v := by simp [List.lookup]
theorem told_NoPlace : told "NoPlace" = ["ValueError", "TworoomsError", "NoPlace"] := by decide
end
end K01
/-! sorted texts; sorted(d); a tuple in a list of tuples -/
namespace WX
open PySem PySem.Spec PyProof.Rows L2 TL HotExc K01
theorem le_of_not_lt {a b : Str} (h : ltCps b.cps.toList a.cps.toList = false) : leS a b = true := by
  rw [ltCps_eq] at h
  exact decide_eq_true (List.not_lt.mp (of_decide_eq_false h))
theorem ris_pw : ∀ (r : List Str) (p : Str), risingS p r = true → (p :: r).Pairwise fun a b => leS a b = true
  | [], p, _ => List.pairwise_singleton _ _
  | x :: r, p, h => by
    unfold risingS at h
    rw [Bool.and_eq_true, Bool.not_eq_true'] at h
    have ih := ris_pw r x h.2
    have px := le_of_not_lt h.1
    refine List.pairwise_cons.mpr ⟨fun y hy => ?_, ih⟩
    rcases List.mem_cons.mp hy with rfl | hy
    · exact px
    · exact leS_trans _ _ _ px ((List.pairwise_cons.mp ih).1 y hy)
theorem sorted_eq {ys ks : List Str} (p : ys.Perm ks) (h : sortedS ys = true) : ys = sortS ks := by
  have pw : ys.Pairwise fun a b => leS a b = true := by
    cases ys with
    | nil => exact List.Pairwise.nil
    | cons x r => exact ris_pw r x h
  exact List.Perm.eq_of_pairwise (fun a b _ _ => leS_anti a b) pw (List.pairwise_mergeSort leS_trans leS_total ks) (p.trans (sortS_pm ks).symm)
theorem sortS_pw (l : List Str) : (sortS l).Pairwise fun a b => leS a b = true := List.pairwise_mergeSort leS_trans leS_total l
/-- what is chosen out of a sorted list, without repetition, is the sorted list of the same things -/
theorem sortS_filter {Ps us : List Str} {f : Str → Bool} (hs : sortS Ps = Ps) (nP : Ps.Nodup) (nu : us.Nodup) (h : ∀ x, x ∈ us ↔ x ∈ Ps ∧ f x = true) : sortS us = Ps.filter f := by
  have pw : Ps.Pairwise fun a b => leS a b = true := hs ▸ sortS_pw Ps
  have pf : (Ps.filter f).Pairwise fun a b => leS a b = true := pw.sublist List.filter_sublist
  have pm : us.Perm (Ps.filter f) := (List.perm_ext_iff_of_nodup nu (nP.sublist List.filter_sublist)).mpr fun x => by rw [h x, List.mem_filter]
  exact List.Perm.eq_of_pairwise (fun a b _ _ => leS_anti a b) (sortS_pw us) pf ((sortS_pm us).trans pm)
def rSortedDS : List V → Hp → VK → Prop := fun xs H Q => ∃ a, xs = [V.ref a] ∧ ∃ kvs : List (Key × V), H a = some (.dK kvs) ∧ ∃ ks : List Str, kvs.map (·.1) = ks.map Sum.inr ∧ ks.length < 64 ∧ ∀ p, H p = none → Q (.ref p) (L2.upd H p (.lst ((sortS ks).map V.str)))
theorem call_sortedDS {X : Cx} (hc : X.calm = true) : CallR X (.builtin "sorted") rSortedDS := callR_mono (call_sortedD hc) fun _ _ _ ⟨a, e, kvs, h1, ks, h2, h3, q⟩ => ⟨a, kvs, ks, e, .of h1, h2, h3, fun ys p pm so np => by
  rw [sorted_eq pm so]
  exact q p np⟩
theorem hu65 {k : Nat} {A : Around} (r : Room k A) : A.units + 65 < cLine := by have := r.un; omega
/-- a pair among pairs -/
theorem op_inDK {X : Cx} {K : PySem.W.Frag} (hu : X.A.units + 65 < cLine) (h : X.K = K := by rfl) : OpR X (compareOp .In) (rInD K) := h ▸ op_inD hu
end WX
namespace K01
open PySem PySem.Spec PyProof.Rows L2 TL HotExc L2H HotLc Tw WX
/-! ### joined places -/
def Cn (T : List (Str × Str)) (W : List Str) (x y : Str) : Prop := ∃ n, Rch T W x n y
section
variable {T : List (Str × Str)} {W : List Str}
theorem Cn.memR {x y : Str} (h : Cn T W x y) : y ∈ W := let ⟨_, h⟩ := h; h.mem
theorem Rch.trans {x y : Str} : ∀ {n m : Nat} {z : Str}, Rch T W x n y → Rch T W y m z → Rch T W x (n + m) z
  | n, 0, z, h, ⟨e, _⟩ => e ▸ h
  | n, m + 1, z, h, ⟨hz, u, hu, hn⟩ => ⟨hz, u, Rch.trans h hu, hn⟩
theorem Cn.refl {x : Str} (h : x ∈ W) : Cn T W x x := ⟨0, rfl, h⟩
theorem Cn.trans {x y z : Str} (h : Cn T W x y) (g : Cn T W y z) : Cn T W x z := let ⟨n, h⟩ := h; let ⟨m, g⟩ := g; ⟨n + m, h.trans g⟩
theorem Rch.swap {s : Str} : ∀ {n : Nat} {x : Str}, Rch T W s n x → Cn T W x s
  | 0, x, ⟨e, h⟩ => by rw [e]; exact Cn.refl h
  | n + 1, x, ⟨hx, y, hy, hn⟩ => (show Cn T W x y from ⟨1, hy.mem, x, ⟨rfl, hx⟩, hn.elim .inr .inl⟩).trans (Rch.swap hy)
theorem Cn.symm {x y : Str} (h : Cn T W x y) : Cn T W y x := let ⟨_, h⟩ := h; h.swap
theorem Cn.memL {x y : Str} (h : Cn T W x y) : x ∈ W := h.symm.memR
theorem Cn.step {x y : Str} (hx : x ∈ W) (hy : y ∈ W) (h : Nbr T x y) : Cn T W x y := ⟨1, hy, x, ⟨rfl, hx⟩, h⟩
theorem Rch.more {T' : List (Str × Str)} (h : ∀ e ∈ T, e ∈ T') {s : Str} : ∀ {n : Nat} {x : Str}, Rch T W s n x → Rch T' W s n x
  | 0, x, g => g
  | n + 1, x, ⟨hx, y, hy, hn⟩ => ⟨hx, y, Rch.more h hy, hn.elim (fun z => .inl (h _ z)) fun z => .inr (h _ z)⟩
theorem Cn.more {T' : List (Str × Str)} (h : ∀ e ∈ T, e ∈ T') {x y : Str} (g : Cn T W x y) : Cn T' W x y := let ⟨n, g⟩ := g; ⟨n, g.more h⟩
/-- a tie more -/
theorem Cn.snoc {a b : Str} (ha : a ∈ W) (hb : b ∈ W) {x y : Str} : Cn (T ++ [(a, b)]) W x y ↔ Cn T W x y ∨ (Cn T W x a ∧ Cn T W b y) ∨ (Cn T W x b ∧ Cn T W a y) := by
  have sub : ∀ e ∈ T, e ∈ T ++ [(a, b)] := fun e h => List.mem_append_left _ h
  have new : Nbr (T ++ [(a, b)]) a b := .inl (List.mem_append_right _ List.mem_cons_self)
  constructor
  · rintro ⟨n, h⟩
    induction n generalizing y with
    | zero => exact .inl ⟨0, h⟩
    | succ n ih =>
      obtain ⟨hy, z, hz, hn⟩ := h
      have hzW := hz.mem
      have old : Nbr T z y → Cn T W z y := fun h => Cn.step hzW hy h
      have cas : Nbr T z y ∨ (z = a ∧ y = b) ∨ (z = b ∧ y = a) := by
        rcases hn with h | h
        · rcases List.mem_append.mp h with h | h
          · exact .inl (.inl h)
          · cases List.mem_singleton.mp h
            exact .inr (.inl ⟨rfl, rfl⟩)
        · rcases List.mem_append.mp h with h | h
          · exact .inl (.inr h)
          · cases List.mem_singleton.mp h
            exact .inr (.inr ⟨rfl, rfl⟩)
      rcases cas with h | ⟨rfl, rfl⟩ | ⟨rfl, rfl⟩
      · rcases ih hz with g | ⟨g1, g2⟩ | ⟨g1, g2⟩
        · exact .inl (g.trans (old h))
        · exact .inr (.inl ⟨g1, g2.trans (old h)⟩)
        · exact .inr (.inr ⟨g1, g2.trans (old h)⟩)
      · rcases ih hz with g | ⟨g1, g2⟩ | ⟨g1, g2⟩
        · exact .inr (.inl ⟨g, Cn.refl hy⟩)
        · exact .inr (.inl ⟨g1, Cn.refl hy⟩)
        · exact .inl g1
      · rcases ih hz with g | ⟨g1, g2⟩ | ⟨g1, g2⟩
        · exact .inr (.inr ⟨g, Cn.refl hy⟩)
        · exact .inl g1
        · exact .inr (.inr ⟨g1, Cn.refl hy⟩)
  · rintro (h | ⟨h1, h2⟩ | ⟨h1, h2⟩)
    · exact h.more sub
    · exact ((h1.more sub).trans (Cn.step ha hb new)).trans (h2.more sub)
    · exact ((h1.more sub).trans (Cn.step hb ha (new.elim .inr .inl))).trans (h2.more sub)
theorem Cn.nil {x y : Str} : Cn [] W x y ↔ x = y ∧ y ∈ W := by
  constructor
  · rintro ⟨n, h⟩
    cases n with
    | zero => exact ⟨h.1.symm, h.mem⟩
    | succ n =>
      obtain ⟨_, z, _, hn⟩ := h
      rcases hn with h | h <;> cases h
  · rintro ⟨rfl, h⟩
    exact Cn.refl h
/-- a tie with an end outside does nothing -/
theorem Cn.out {a b : Str} (h : ¬ (a ∈ W ∧ b ∈ W)) {x y : Str} : Cn (T ++ [(a, b)]) W x y ↔ Cn T W x y := by
  refine ⟨?_, Cn.more fun e h => List.mem_append_left _ h⟩
  rintro ⟨n, g⟩
  induction n generalizing y with
  | zero => exact ⟨0, g⟩
  | succ n ih =>
    obtain ⟨hy, z, hz, hn⟩ := g
    have hzW := hz.mem
    refine (ih hz).trans (Cn.step hzW hy ?_)
    rcases hn with g | g
    · rcases List.mem_append.mp g with g | g
      · exact .inl g
      · cases List.mem_singleton.mp g
        exact absurd ⟨hzW, hy⟩ h
    · rcases List.mem_append.mp g with g | g
      · exact .inr g
      · cases List.mem_singleton.mp g
        exact absurd ⟨hy, hzW⟩ h
theorem Exact.cn {s : Str} {d : Str → Option Nat} (h : Exact T W s d) (x : Str) : (∃ v, d x = some v) ↔ Cn T W s x := by
  constructor
  · rintro ⟨v, e⟩
    exact ⟨v, ((h x v).mp e).1⟩
  · rintro ⟨n, g⟩
    obtain ⟨m, _, D⟩ := g.dst
    exact ⟨m, (h x m).mpr D⟩
/-- the part of a place in W, in the order of Ps -/
noncomputable def grp (Ps : List Str) (T : List (Str × Str)) (W : List Str) (s : Str) : List Str := Ps.filter fun z => @decide (Cn T W s z) (Classical.propDecidable _)
theorem mem_grp {Ps : List Str} {s z : Str} : z ∈ grp Ps T W s ↔ z ∈ Ps ∧ Cn T W s z := by
  unfold grp
  rw [List.mem_filter]
  exact ⟨fun h => ⟨h.1, @of_decide_eq_true _ (Classical.propDecidable _) h.2⟩, fun h => ⟨h.1, @decide_eq_true _ (Classical.propDecidable _) h.2⟩⟩
theorem grp_sorted {Ps us : List Str} {s : Str} (hs : sortS Ps = Ps) (nP : Ps.Nodup) (nu : us.Nodup) (hW : ∀ y ∈ W, y ∈ Ps) (h : ∀ x, x ∈ us ↔ Cn T W s x) : sortS us = grp Ps T W s := by
  unfold grp
  refine sortS_filter hs nP nu fun x => ?_
  rw [h x]
  exact ⟨fun g => ⟨hW x g.memR, @decide_eq_true _ (Classical.propDecidable _) g⟩, fun g => @of_decide_eq_true _ (Classical.propDecidable _) g.2⟩
/-- labels: alike where joined -/
structure Lab (T : List (Str × Str)) (W : List Str) (L : Str → Option Str) : Prop where
  dom : ∀ x, (L x).isSome = decide (x ∈ W)
  eqv : ∀ x y, x ∈ W → y ∈ W → (L x = L y ↔ Cn T W x y)
theorem Lab.start : Lab [] W (fun x => if x ∈ W then some x else none) := by
  refine ⟨fun x => ?_, fun x y hx hy => ?_⟩
  · by_cases h : x ∈ W <;> simp [h]
  · rw [if_pos hx, if_pos hy, Cn.nil]
    exact ⟨fun e => ⟨Option.some.inj e, hy⟩, fun ⟨e, _⟩ => by rw [e]⟩
theorem Lab.out {L : Str → Option Str} (h : Lab T W L) {a b : Str} (g : ¬ (a ∈ W ∧ b ∈ W)) : Lab (T ++ [(a, b)]) W L := ⟨h.dom, fun x y hx hy => (h.eqv x y hx hy).trans (Cn.out g).symm⟩
theorem Lab.join {L : Str → Option Str} (h : Lab T W L) {a b : Str} (ha : a ∈ W) (hb : b ∈ W) : Lab (T ++ [(a, b)]) W (fun x => if x ∈ W ∧ L x = L a then L b else L x) := by
  refine ⟨fun x => ?_, fun x y hx hy => ?_⟩
  · by_cases g : x ∈ W ∧ L x = L a
    · rw [if_pos g, h.dom b, decide_eq_true hb, decide_eq_true g.1]
    · rw [if_neg g, h.dom x]
  · have ex := h.eqv x a hx ha
    have ey := h.eqv y a hy ha
    have exb := h.eqv x b hx hb
    have eyb := h.eqv y b hy hb
    have exy := h.eqv x y hx hy
    rw [Cn.snoc ha hb]
    by_cases gx : L x = L a <;> by_cases gy : L y = L a
    · rw [if_pos ⟨hx, gx⟩, if_pos ⟨hy, gy⟩]
      exact ⟨fun _ => .inl (exy.mp (gx.trans gy.symm)), fun _ => rfl⟩
    · rw [if_pos ⟨hx, gx⟩, if_neg (fun z => gy z.2)]
      constructor
      · intro e
        exact .inr (.inl ⟨ex.mp gx, (eyb.mp e.symm).symm⟩)
      · rintro (g | ⟨_, g2⟩ | ⟨g1, g2⟩)
        · exact absurd (((exy.mpr g).symm).trans gx) gy
        · exact (eyb.mpr g2.symm).symm
        · exact absurd (ey.mpr g2.symm) gy
    · rw [if_neg (fun z => gx z.2), if_pos ⟨hy, gy⟩]
      constructor
      · intro e
        exact .inr (.inr ⟨exb.mp e, (ey.mp gy).symm⟩)
      · rintro (g | ⟨g1, g2⟩ | ⟨g1, _⟩)
        · exact absurd ((exy.mpr g).trans gy) gx
        · exact absurd (ex.mpr g1) gx
        · exact exb.mpr g1
    · rw [if_neg (fun z => gx z.2), if_neg (fun z => gy z.2)]
      constructor
      · intro e
        exact .inl (exy.mp e)
      · rintro (g | ⟨g1, _⟩ | ⟨_, g2⟩)
        · exact exy.mpr g
        · exact absurd (ex.mpr g1) gx
        · exact absurd (ey.mpr g2.symm) gy
end
end K01
/-! sets of texts that can be sorted -/
namespace WX
open PySem PySem.Spec PyProof.Rows L2
/-- the text of a member -/
def txt (e : Int × Value) : Str := match e.2 with
  | .str x _ => x
  | _ => Str.empty
def GoodT (P : Program) (w : World) (e : Int × Value) : Prop := ∃ x tk, e.2 = Value.str x tk ∧ e.1 = (mixKind P w).hash (Sum.inr x)
structure TxtAt (P : Program) (w : World) (h : Heap) (a : Addr) (S : Str → Bool) (es : Array (Int × Value)) (ep : Nat) (t : SetTable) : Prop where
  ob : ∃ o, h.get? a = some o ∧ o.ExactSet ∧ o.data = .set es ep t
  good : ∀ e ∈ es.toList, GoodT P w e
  nd : (es.toList.map txt).Nodup
  mem : ∀ x, S x = true ↔ x ∈ es.toList.map txt
  few : es.size < scanBound
  fits : t.fits es.size = true
  ris : Ris t.place.toList
  led : w.params.followText "set-order" = true ∨ t.led = true
def TxtS (P : Program) (w : World) (h : Heap) (a : Addr) (S : Str → Bool) (n : Nat) : Prop := ∃ es ep t, TxtAt P w h a S es ep t ∧ es.size ≤ n
section
variable {P : Program} {w : World} {h h' : Heap} {a : Addr} {S : Str → Bool} {n : Nat}
theorem TxtS.keep (R : TxtS P w h a S n) (k : ∀ o, h.get? a = some o → h'.get? a = some o) : TxtS P w h' a S n := by
  obtain ⟨es, ep, t, ⟨⟨o, ho, r⟩, r2, r3, r4, r5, r6, r7, r8⟩, r9⟩ := R
  exact ⟨es, ep, t, ⟨⟨o, k o ho, r⟩, r2, r3, r4, r5, r6, r7, r8⟩, r9⟩
theorem TxtS.ext {S' : Str → Bool} {m : Nat} (R : TxtS P w h a S n) (e : ∀ x, S x = S' x) (hm : n ≤ m) : TxtS P w h a S' m := by
  obtain rfl : S = S' := funext e
  obtain ⟨es, ep, t, r, hn⟩ := R
  exact ⟨es, ep, t, r, Nat.le_trans hn hm⟩
theorem txt_is {e : Int × Value} (g : GoodT P w e) (k : Key) : (mixKind P w).is k e.2 = true ↔ k = Sum.inr (txt e) := by
  obtain ⟨x, tk, h1, _⟩ := g
  have ht : txt e = x := by unfold txt; rw [h1]
  rw [ht, h1]
  constructor
  · intro z
    rcases keyIs_shape z with ⟨i, t, _, e2⟩ | ⟨y, t, e1, e2⟩
    · cases e2
    · rw [e1]
      cases e2
      rfl
  · rintro rfl
    exact kV_is (k := Sum.inr x) ⟨tk, rfl⟩
theorem txt_elems {l : List (Int × Value)} (g : ∀ e ∈ l, GoodT P w e) : ElemsOf (mixKind P w) l := fun e he => by
  obtain ⟨x, tk, h1, h2⟩ := g e he
  exact ⟨⟨Sum.inr x, by rw [h1]; exact kV_is (k := Sum.inr x) ⟨tk, rfl⟩, h2⟩, by rw [h1] <;> rfl⟩
theorem txt_mem {l : List (Int × Value)} (g : ∀ e ∈ l, GoodT P w e) (x : Str) : x ∈ l.map txt ↔ ∃ e ∈ l, (mixKind P w).is (Sum.inr x) e.2 = true := by
  rw [List.mem_map]
  exact ⟨fun ⟨e, he, q⟩ => ⟨e, he, (txt_is (g e he) _).mpr (by rw [q])⟩, fun ⟨e, he, q⟩ => ⟨e, he, (Sum.inr.inj ((txt_is (g e he) _).mp q)).symm⟩⟩
theorem TxtS.fresh (e : h.get? a = some (newSet (!w.params.followText "set-order"))) : TxtS P w h a (fun _ => false) 0 := by
  refine ⟨#[], 0, .fresh 0 0 (!w.params.followText "set-order"), ⟨⟨_, e, ⟨rfl, rfl, rfl⟩, rfl⟩, fun e he => (by simp at he), (by simp), fun x => (by simp), (by decide), (by cases w.params.followText "set-order" <;> rfl), List.Pairwise.nil, ?_⟩, Nat.le_refl _⟩
  show _ ∨ (!w.params.followText "set-order") = true
  cases w.params.followText "set-order"
  · exact .inr rfl
  · exact .inl rfl
end
section
variable {P : Program} {w : World} {A : Around} {E : Value → Shared → Prop} {s : Shared} {a : Addr} {S : Str → Bool} {n : Nat}
theorem putAt {h : Heap} {o : Obj} {es es' : Array (Int × Value)} {ep : Nat} {t t' : SetTable} (ho : h.get? a = some o) (hd : o.data = .set es ep t) : (h.update a (Obj.putSet es' t')).get? a = some { o with data := .set es' (ep + 1) t' } := L2.store_at ho hd
/-- the end of an add: what was laid, laid anew if it is too full -/
theorem txt_tail {g : Bool → Sem Unit} (hg : ∀ (b : Bool) (z : Shared) (Q1 : Unit → Shared → Prop), Q1 () z → wpAny (model P w) A (g b) Q1 E z) {o : Obj} {es : Array (Int × Value)} {ep : Nat} {t : SetTable} (ho : s.heap.get? a = some o) (hex : o.ExactSet) (hd : o.data = .set es ep t)
    {e1 : Array (Int × Value)} {t2 : SetTable} {S' : Str → Bool} {m : Nat} (gd : ∀ e ∈ e1.toList, GoodT P w e) (nd : (e1.toList.map txt).Nodup) (mm : ∀ x, S' x = true ↔ x ∈ e1.toList.map txt) (fb : e1.size < scanBound) (ff : t2.fits e1.size = true) (rr : Ris t2.place.toList) (ll : w.params.followText "set-order" = true ∨ t2.led = true) (hm : e1.size ≤ m) {wd : Bool}
    {R : Option Bool → Shared → Prop} (fin : ∀ h', Heap.SameBut a s.heap h' → TxtS P w h' a S' m → R (some true) { s with heap := h' }) :
    wpAny (model P w) A (do
        storeSet a e1 t2
        if (!wd && t2.tooFull) = true then do
            g (relayAll t2 e1 (SetTable.grown e1.size)).2.2
            storeSet a (relayAll t2 e1 (SetTable.grown e1.size)).1 (relayAll t2 e1 (SetTable.grown e1.size)).2.1
            pure (some true)
          else pure (some true)) R E s := by
  refine wpAny_bind (wpAny_storeSet_of ho hd ?_ (fits_of_scanBound fb))
  have h1 := putAt (es' := e1) (t' := t2) ho hd
  have b1 := Heap.SameBut.update s.heap a (Obj.putSet e1 t2)
  by_cases c : (!wd && t2.tooFull) = true
  · rw [if_pos c]
    have x1 := relayAll_perm t2 e1 (SetTable.grown e1.size)
    have x2 := relayAll_fits t2 e1 (SetTable.grown e1.size)
    have x3 := relayAll_ris t2 e1 (SetTable.grown e1.size)
    have x4 := relayAll_led t2 e1 (SetTable.grown e1.size)
    generalize relayAll t2 e1 (SetTable.grown e1.size) = Z at x1 x2 x3 x4 ⊢
    obtain ⟨e2, t3, gv⟩ := Z
    dsimp only at x1 x2 x3 x4 ⊢
    have z : e2.size = e1.size := by rw [← Array.length_toList, x1.length_eq, Array.length_toList]
    have f2 : e2.size < scanBound := z ▸ fb
    refine wpAny_bind (hg _ _ _ (wpAny_bind (wpAny_storeSet_of h1 rfl ?_ (fits_of_scanBound f2))))
    refine wpAny_pure (fin _ (b1.trans (Heap.SameBut.update _ a _)) ⟨e2, _, t3, ⟨⟨_, putAt (es' := e2) (t' := t3) h1 rfl, hex, rfl⟩, fun e he => gd e (x1.mem_iff.mp he), (x1.map txt).nodup_iff.mpr nd, fun x => (mm x).trans (x1.map txt).mem_iff.symm, f2, x2, x3, ll.imp id fun q => by rw [x4]; exact q⟩, by omega⟩)
  · rw [if_neg c]
    exact wpAny_pure (fin _ b1 ⟨e1, _, t2, ⟨⟨_, h1, hex, rfl⟩, gd, nd, mm, fb, ff, rr, ll⟩, hm⟩)
theorem txt_add {x : Str} {tk : Tok} {Q : Bool → Shared → Prop} (R : TxtS P w s.heap a S n) (room : n + 1 < scanBound)
    (hQ : ∀ (b : Bool) h', Heap.SameBut a s.heap h' → TxtS P w h' a (fun y => S y || decide (y = x)) (n + 1) → Q b { s with heap := h' }) : wpAny (model P w) A (setAddHashed a (.str x tk) ((mixKind P w).hash (Sum.inr x))) Q E s := by
  obtain ⟨es, ep, t, ⟨⟨o, ho, hex, hd⟩, gd, nd, mm, fb, ff, rr, ll⟩, hn⟩ := R
  have key : (mixKind P w).is (Sum.inr x) (.str x tk) = true := kV_is (k := Sum.inr x) ⟨tk, rfl⟩
  have sc : (Value.str x tk).scannable = true := rfl
  have el := txt_elems gd
  have quiet : ∀ (b : Bool) {z : Shared} {Q1 : Unit → Shared → Prop}, Q1 () z → wpAny (model P w) A (match b with | true => rule "set.scan.the-table-gave-way" | false => pure ()) Q1 E z := fun b z Q1 q => by cases b <;> first | exact wpAny_pure q | exact wpAny_rule q
  unfold setAddHashed setAddHashedIn
  refine wpAny_holding (wpAny_bind (wpAny_setState_of ho hd ff (by
    dsimp only
    rw [byScan_of sc fb el]
    simp only [↓reduceIte]
    unfold setAddByScan
    refine wpAny_bind (wpAny_bind (wpAny_rule (wpAny_bind (wpAny_setScan_of key ho hd ff el ?_))))
    cases fi : List.findIdx? (fun e => (mixKind P w).is (Sum.inr x) e.2) es.toList with
    | some j =>
      dsimp only
      obtain ⟨hj, pj, _⟩ := List.findIdx?_eq_some_iff_getElem.mp fi
      have hS : S x = true := (mm x).mpr ((txt_mem gd x).mpr ⟨es.toList[j], List.getElem_mem hj, pj⟩)
      exact wpAny_pure (wpAny_pure (hQ _ s.heap (Heap.SameBut.refl a s.heap) ⟨es, ep, t, ⟨⟨o, ho, hex, hd⟩, gd, nd, fun y => by
        rw [Bool.or_eq_true, decide_eq_true_eq, ← mm y]
        exact ⟨fun z => z.elim id (fun e => e ▸ hS), .inl⟩, fb, ff, rr, ll⟩, by omega⟩))
    | none =>
      dsimp only
      have hx : x ∉ es.toList.map txt := fun z => by
        obtain ⟨e, he, q⟩ := (txt_mem gd x).mp z
        have := List.findIdx?_eq_none_iff.mp fi e he
        rw [q] at this
        cases this
      have x1 := layNew_perm t es ((mixKind P w).hash (Sum.inr x)) (.str x tk)
      have x2 := layNew_fits t es ((mixKind P w).hash (Sum.inr x)) (.str x tk)
      have x3 := layNew_ris t es ((mixKind P w).hash (Sum.inr x)) (.str x tk) rr
      have x4 := layNew_led t es ((mixKind P w).hash (Sum.inr x)) (.str x tk)
      generalize layNew t es ((mixKind P w).hash (Sum.inr x)) (.str x tk) = Z at x1 x2 x3 x4 ⊢
      obtain ⟨e1, t1, wd, gv⟩ := Z
      dsimp only at x1 x2 x3 x4 ⊢
      rw [Array.toList_push] at x1
      have pc : e1.toList.Perm (((mixKind P w).hash (Sum.inr x), Value.str x tk) :: es.toList) := x1.trans (List.perm_append_singleton _ _)
      have pk : (e1.toList.map txt).Perm (x :: es.toList.map txt) := pc.map txt
      have gd1 : ∀ e ∈ e1.toList, GoodT P w e := fun e he => (List.mem_cons.mp (pc.mem_iff.mp he)).elim (fun z => z ▸ ⟨x, tk, rfl, rfl⟩) (gd e)
      have nd1 : (e1.toList.map txt).Nodup := pk.nodup_iff.mpr (List.nodup_cons.mpr ⟨hx, nd⟩)
      have mm1 : ∀ y, (S y || decide (y = x)) = true ↔ y ∈ e1.toList.map txt := fun y => by
        rw [Bool.or_eq_true, decide_eq_true_eq, mm y, pk.mem_iff, List.mem_cons]
        exact Or.comm
      have z1 : e1.size ≤ n + 1 := by rw [← Array.length_toList, pc.length_eq, List.length_cons, Array.length_toList]; omega
      have fb1 : e1.size < scanBound := by omega
      have ll1 : w.params.followText "set-order" = true ∨ t1.led = true := ll.imp id fun z => by rw [x4]; exact z
      refine wpAny_bind (quiet _ ?_)
      split
      · refine wpAny_bind (by
          rw [hashByValue_scannable 8 sc]
          refine wpAny_pure (txt_tail (fun b z Q1 q => by cases b <;> first | exact wpAny_pure q | exact wpAny_rule q) ho hex hd gd1 nd1 mm1 fb1 ?_ ?_ ?_ z1 fun h' sb r => (by dsimp only; exact wpAny_pure (hQ _ h' sb r)))
          · first | (split <;> first | exact x2 | exact SetTable.fits_plain_off x2) | exact x2
          · first | (split <;> exact x3) | exact x3
          · first | (split <;> exact ll1) | exact ll1)
      · refine wpAny_bind (wpAny_pure ?_)
        simp only [↓reduceIte]
        exact txt_tail (fun b z Q1 q => by cases b <;> first | exact wpAny_pure q | exact wpAny_rule q) ho hex hd gd1 nd1 mm1 fb1 x2 x3 ll1 z1 fun h' sb r => (by dsimp only; exact wpAny_pure (hQ _ h' sb r)))))
end
end WX
/-! set(texts), sorted(set) -/
namespace WX
open PySem PySem.Spec PyProof.Rows L2
section
variable {P : Program} {w : World} {A : Around} {R : Result → Shared → Prop} {I0 : Addr} {fp wr : List Addr} {G : Array GenState → Array GenState → Prop} {n : Nat} {V0 : Nat → Value → Prop} {St0 : Nat → Shared → Prop}
theorem upd_txt (Wk : WalksS P w A.in1 I0 fp wr G n V0 St0) (T : Addr) (nT : T ∉ fp) (ws : List Str) (few : n ≤ 100) (val : ∀ i v, V0 i v → ∃ x, ws[i]? = some x ∧ RelV (V.str x) v) :
    ∀ (m i : Nat) (s : Shared), n - i = m → i ≤ n → St0 i s → TxtS P w s.heap T (fun y => inW ws i (Sum.inr y)) i →
      (∀ s2, Moved (T :: wr) G s s2 → TxtS P w s2.heap T (fun y => inW ws n (Sum.inr y)) n → R (.ok (.ret .none)) s2) →
      codeAny (model P w) A (.builtin "set.update.loop" ⟨[.ref T, .ref I0], []⟩) R s := by
  have nTw : T ∉ wr := fun z => nT (Wk.sub _ z)
  have more : ∀ b ∈ wr, b ∈ T :: wr := fun b z => List.mem_cons_of_mem _ z
  intro m
  induction m with
  | zero =>
    intro i s e le st R0 fin
    obtain rfl : i = n := by omega
    refine codeAny_builtin F.entry_set_update_loop (by
      rw [Around.under_plainId F.plain_set_update_loop _]
      show wpAny _ A.in1 (pyNext (.ref I0) >>= _) _ _ s
      exact wpAny_bind (Wk.done s _ _ st fun s2 mv => (show wpAny _ A.in1 (ret Value.none) _ _ s2 from wpAny_pure (fin s2 (mv.mono more) (R0.keep fun o ho => mv.heap T _ nTw ho)))))
  | succ m ih =>
    intro i s e le st R0 fin
    have lt : i < n := by omega
    refine codeAny_builtin F.entry_set_update_loop (by
      rw [Around.under_plainId F.plain_set_update_loop _]
      show wpAny _ A.in1 (pyNext (.ref I0) >>= _) _ _ s
      refine wpAny_bind (Wk.item i s _ _ lt st fun u s2 pu st2 mv => ?_)
      obtain ⟨x, hx, ru⟩ := val i u pu
      have R1 := R0.keep (h' := s2.heap) fun o ho => mv.heap T _ nTw ho
      obtain ⟨tk, rfl⟩ := ru
      show wpAny _ A.in1 (holding [Value.str x tk] (setAdd T (.str x tk)) >>= _) _ _ s2
      refine wpAny_bind (wpAny_holding (by
        unfold setAdd
        refine wpAny_holding (wpAny_bind ((mixKind P w).pyHash (k := Sum.inr x) (kV_is (k := Sum.inr x) ⟨tk, rfl⟩) ?_))
        refine txt_add (s := { s2 with toks := s2.toks + 1 }) R1 (by unfold scanBound; omega) fun bb h2 sb R2 => ?_
        refine wpAny_pure ⟨plainId_quiet F.plain_set_update_loop _, ih (i + 1) _ (by omega) lt (Wk.frame _ s2 _ _ st2 (Nat.le_succ _) fun b hb o eo => (sb.2 b (fun z : b = T => nT (by rw [← z]; exact hb))).trans eo) (R2.ext (fun y => by
          show _ = inW ws (i + 1) (Sum.inr y)
          rw [inW_next hx]
          congr 1
          exact decide_eq_decide.mpr ⟨fun e => congrArg Sum.inr e, Sum.inr.inj⟩) (Nat.le_refl _)) fun s3 mv3 R3 => ?_⟩
        · exact fin s3 (Moved.trans Wk.gtrans ((mv.mono more).then_heap (Nat.le_succ _) fun b o hb eo => (sb.2 b (fun z : b = T => hb (by rw [z]; exact List.mem_cons_self))).trans eo) mv3) R3)))
end
section
variable {P : Program} {w : World} {A : Around} {E : Value → Shared → Prop} {s : Shared}
set_option maxHeartbeats 3200000 in
theorem call_set_txt {l : Addr} {items : Array Value} {ws : List Str} {Q : Value → Shared → Prop} (hh : A.handled = none) (hl : s.heap.IsList l items) (hv : Vals (ws.map V.str) items.toList) (few : ws.length ≤ 100)
    (h : ∀ (h2 : Heap) (tk : Nat), TxtS P w h2 s.heap.objs.size (fun y => inW ws ws.length (Sum.inr y)) ws.length → (∀ b o, s.heap.get? b = some o → h2.get? b = some o) → Q (.ref s.heap.objs.size) { s with heap := h2, toks := tk }) :
    wpAny (model P w) A (call (.type "set") [.ref l]) Q E s := by
  have isz : items.size = ws.length := by
    have := hv.length
    rw [List.length_map, Array.length_toList] at this
    exact this.symm
  have ⟨_, _, mr⟩ := PySem.F.called_set.mro
  have md := PySem.F.called_set.made; have sb := PySem.F.called_set.sub
  refine wpAny_call (codeAny_of_tree (by
    show wpAny _ _ (callAny (.type "set") _) _ _ _
    refine wpAny_pure ⟨Code.quiet_builtin _ (by decide +kernel), codeAny_builtin PySem.F.entry_type_call ?_⟩
    rw [Around.under_plain (weight_type_call_type "set" [.ref l] []) rfl]
    have nt := PySem.F.called_set.notType; have cc := PySem.F.called_set.canCreate; have tc := PySem.F.typeCall_set_1 (.ref l)
    repeat (any_goals (first | assumption | wp_step))
    refine codeAny_mono (code_set_led1 (.ref l) (E := E) (Q₁ := fun ob s1 => ob = .ref s.heap.objs.size ∧ s1 = { s with heap := s.heap.push (newSet (!w.params.followText "set-order")) }) ⟨rfl, rfl⟩) fun r s1 hr => ?_
    match r, hr with
    | .error e, hr => exact hr
    | .ok (.ret ob), ⟨e1, e2⟩ =>
      subst e1 e2
      generalize hled : (!w.params.followText "set-order") = led
      have hS : (s.heap.push (newSet led)).get? s.heap.objs.size = some (newSet led) := Heap.get?_push_size _ rfl
      have tS : Shared.TypeIs { s with heap := s.heap.push (newSet led) } (.ref s.heap.objs.size) "set" := ⟨_, hS, rfl⟩
      have li := PySem.F.called_set.init.lookup; have bi := PySem.F.called_set.init.bind (.ref s.heap.objs.size)
      repeat (any_goals (first | assumption | wp_step))
      refine codeAny_mono (codeAny_call_builtin (R := wants (fun r s2 => r = .none ∧ ∃ h2 tk, s2 = { s with heap := h2, toks := tk } ∧ TxtS P w h2 s.heap.objs.size (fun y => inW ws ws.length (Sum.inr y)) ws.length ∧
          (∀ b o, s.heap.get? b = some o → h2.get? b = some o)) E) PySem.F.called_set.init.plain PySem.F.entry_set_init (check_set_init_1 tS ?_)) fun r2 s2 hr2 => ?_
      · obtain ⟨⟨oc, od, oa, os⟩, ho, hc, nl, hd⟩ := hl
        simp only at hc hd
        subst hc hd
        have ho1 : (s.heap.push (newSet led)).get? l = some { cls := .type "list", dict := od, data := .seq items nl, slots := os } := Heap.get?_push_of_some _ ho
        have s1 := PySem.F.sub_list_set; have s2 := PySem.F.sub_list_frozenset
        have ne : (Value.type "list" == Value.type "dict") = false := by decide
        have hl1 : (s.heap.push (newSet led)).IsList l items := ⟨_, ho1, rfl, nl, rfl⟩
        unfold Builtin.«set.__init__» noKeywords Builtin.Frozenset.updateFrom
        generalize hPI : pyIter = PI
        wp_walk
        subst hPI
        refine wpAny_pyIter_list hl1 (wpAny_bind (wpAny_runValue ?_))
        have ll : l < s.heap.objs.size := Heap.lt_size ho
        have h3 : A.in1.in1.in1.handled = none := by simp [hh]
        have z1 : (s.heap.push (newSet led)).objs.size = s.heap.objs.size + 1 := Heap.size_push ..
        have nI : l ≠ (s.heap.push (newSet led)).objs.size := by
          rw [z1]
          exact Nat.ne_of_lt (Nat.lt_succ_of_lt ll)
        have nS : s.heap.objs.size ∉ [(s.heap.push (newSet led)).objs.size, l] := by
          rw [z1]
          simp only [List.mem_cons, List.not_mem_nil, or_false, not_or]
          exact ⟨Nat.ne_of_lt (Nat.lt_succ_self _), Nat.ne_of_gt ll⟩
        have val : ∀ (i : Nat) (v : Value), items[i]? = some v → ∃ x, ws[i]? = some x ∧ RelV (V.str x) v := fun i v e => by
          have hi : i < ws.length := by have := (Array.getElem?_eq_some_iff.mp e).1; omega
          refine ⟨ws[i], List.getElem?_eq_getElem hi, ?_⟩
          have := hv.get (i := i) (x := V.str ws[i]) (by rw [List.getElem?_map, List.getElem?_eq_getElem hi]; rfl)
          obtain ⟨u, e2, ru⟩ := this
          rw [Array.getElem?_toList, e] at e2
          cases e2
          exact ru
        refine upd_txt ((Walks.list h3 _ l nI items).toS) s.heap.objs.size nS ws (by omega) val (items.size - 0) 0 _ rfl (Nat.zero_le _) ⟨⟨_, Heap.get?_push_size _ rfl, rfl, rfl⟩, hl1.push _⟩ ?hS0 ?hR
        case hS0 =>
          exact (TxtS.fresh (P := P) (w := w) (h := ((s.heap.push (newSet led)).push { cls := .type "list_iterator", data := .fields #[.ref l, .int 0 0] })) (a := s.heap.objs.size) (by rw [hled]; exact Heap.get?_push_of_some _ hS)).ext (fun x => by unfold inW; simp) (Nat.le_refl _)
        case hR =>
          rintro ⟨h4, g4, d4, t4, o4⟩ mv R4
          have eg : g4 = s.gens := mv.gens
          have ed : d4 = s.drawn := mv.drawn
          have eo : o4 = s.os := mv.os
          subst eg ed eo
          rw [isz] at R4
          show wpAny _ _ _ _ _ _
          refine wpAny_pure (show wpAny _ _ (ret Value.none) _ _ _ from wpAny_pure ⟨rfl, h4, t4, rfl, R4, fun b o e => ?_⟩)
          have hb := Heap.lt_size e
          refine mv.heap b o (by
            simp only [List.mem_cons, List.not_mem_nil, or_false, not_or]
            rw [z1]
            exact ⟨Nat.ne_of_lt hb, Nat.ne_of_lt (Nat.lt_succ_of_lt hb)⟩) (Heap.get?_push_of_some _ (Heap.get?_push_of_some _ e))
      · match r2, hr2 with
        | .error e, hr2 => exact hr2
        | .ok (.ret r3), ⟨e1, h2, tk, e2, R4, k4⟩ =>
          subst e1 e2
          repeat (any_goals (first | assumption | wp_step))
          exact h _ _ R4 k4))
end
section
variable {P : Program} {w : World} {A : Around} {E : Value → Shared → Prop} {s : Shared} {a : Addr} {S : Str → Bool} {n : Nat}
theorem strs_txt : ∀ (l : List (Int × Value)), (∀ e ∈ l, GoodT P w e) → StrsAre (l.map (·.2)) (l.map txt)
  | [], _ => .nil
  | e :: l, g => by
    obtain ⟨x, tk, h1, _⟩ := g e List.mem_cons_self
    have : txt e = x := by unfold txt; rw [h1]
    rw [List.map_cons, List.map_cons, this, h1]
    exact .cons x tk (strs_txt l fun u hu => g u (List.mem_cons_of_mem _ hu))
theorem strs_perm : ∀ {us vs : List Value} {xs : List Str}, us.Perm vs → StrsAre vs xs → ∃ ys, StrsAre us ys ∧ ys.Perm xs := by
  intro us vs xs p
  induction p generalizing xs with
  | nil => intro h; exact ⟨xs, h, .refl _⟩
  | cons x _ ih =>
    intro h
    cases h with
    | cons y t r =>
      obtain ⟨ys, h1, h2⟩ := ih r
      exact ⟨y :: ys, .cons y t h1, h2.cons y⟩
  | swap x y l =>
    intro h
    cases h with
    | cons a ta r =>
      cases r with
      | cons b tb r => exact ⟨b :: a :: _, .cons b tb (.cons a ta r), .swap ..⟩
  | trans _ _ ih1 ih2 =>
    intro h
    obtain ⟨ys, h1, h2⟩ := ih2 h
    obtain ⟨zs, h3, h4⟩ := ih1 h1
    exact ⟨zs, h3, h4.trans h2⟩
/-- sorted(xs), xs a set of texts -/
theorem sorted_txt {Q : Value → Shared → Prop} (R : TxtS P w s.heap a S n) (hh : A.handled = none) (few : n < 64)
    (hQ : ∀ s2 p (out : List Value) (c : Nat) (ys : List Str), (∀ b o, s.heap.get? b = some o → s2.heap.get? b = some o) → s2.gens = s.gens → s2.os = s.os → s.heap.objs.size ≤ p → s2.heap.get? p = some (seqObj "list" out.toArray c) → StrsAre out ys → sortedS ys = true → ys.Nodup → (∀ x, x ∈ ys ↔ S x = true) → ys.length ≤ n → Q (.ref p) s2) :
    wpAny (model P w) A (call (.builtin "sorted") [.ref a]) Q E s := by
  obtain ⟨es, ep, t, ⟨⟨o, ho, hex, hd⟩, gd, nd, mm, fb, ff, rr, ll⟩, hn⟩ := R
  refine Calls.call_function_entry PyProof.Rows.kind_sorted PyProof.Rows.plain_sorted PyProof.Rows.entry_sorted (PyProof.Rows.args_sorted1 _) (by
    unfold Builtin.«sorted»
    refine wpAny_bind (m := checkCount "sorted" 1 1 _) (wpAny_pure (wpAny_bind (collect_set (A := A.in1) hh ⟨o, ho, hex.1, hd⟩ ff fb rr ll fun s1 vs k1 hz g1 o1 pm => ?_)))
    obtain ⟨ks, hS, pk⟩ := strs_perm pm (strs_txt es.toList gd)
    have hal : vs.length ≤ n := by rw [pm.length_eq, List.length_map, Array.length_toList]; exact hn
    refine wpAny_bind (wpAny_newList ?_ (by rw [sizeLine_eq]; omega))
    have hoL : (s1.heap.push (seqObj "list" vs.toArray 0)).get? s1.heap.objs.size = some (seqObj "list" vs.toArray 0) := Heap.get?_push_size _ rfl
    refine wpAny_bind (wpAny_holding (wpAny_call_entry PyProof.Rows.slot_list_sort ⟨_, hoL, rfl⟩ PyProof.Rows.entry_list_sort (list_sort_treeK strKind_oneLt (s := { s1 with heap := s1.heap.push (seqObj "list" vs.toArray 0) }) hoL hS.keysOf (fun v1 v2 rest e => keyKind_strs (by rw [← e]; exact hS)) (by omega) fun st' hp hs => ⟨_, rfl, ?_⟩) (PyProof.Rows.args_list_sort _)))
    obtain ⟨ys, q1, q2, q3⟩ := sorted_out_str hS hp hs
    obtain ⟨e', he'⟩ := PyProof.Rows.sortedHeap_at (vs := vs) (out := (arrOf st').map (·.2)) hoL
    have py := q2.trans pk
    refine wpAny_pure ⟨_, rfl, hQ _ s1.heap.objs.size ((arrOf st').map (·.2)).toList e' ys (fun b u e => ?_) g1 o1 hz (by rw [Array.toArray_toList]; exact he') q1 q3 (py.nodup_iff.mpr nd) (fun x => py.mem_iff.trans (mm x).symm) (by rw [py.length_eq, List.length_map, Array.length_toList]; exact hn)⟩
    have q := k1 b u e
    have hlt := Heap.lt_size q
    show (sortedHeap (s1.heap.push (seqObj "list" vs.toArray 0)) s1.heap.objs.size vs ((arrOf st').map (·.2))).get? b = some u
    rw [PyProof.Rows.sortedHeap_old (Nat.ne_of_lt hlt) (by rw [size_push']; exact Nat.lt_succ_of_lt hlt)]
    exact Heap.get?_push_of_some _ q)
end
/-! ### the rules -/
def SetX (P : Program) (w : World) (a : Addr) (S : Str → Bool) (n : Nat) : HO := .ext fun h => TxtS P w h a S n
theorem setX_new {w : World} {P : Program} {H : Hp} {h : Heap} {a : Addr} {S : Str → Bool} {n : Nat} (R : TxtS P w h a S n) : ObjOk P w H h a (SetX P w a S n) := by
  obtain ⟨es, ep, t, r, _⟩ := id R
  obtain ⟨o, ho, _⟩ := r.ob
  exact ⟨R, ⟨o, ho⟩, fun h1 h2 p k => TxtS.keep p k⟩
def rSetX (K : PySem.W.Frag) (P : Program) (w : World) : List V → Hp → VK → Prop := fun xs H Q => ∃ a, xs = [V.ref a] ∧ ∃ ws : List Str, SqL K H a (ws.map V.str) ∧ ws.length ≤ 100 ∧ ∀ p, H p = none → Q (.ref p) (L2.upd H p (SetX P w p (fun y => decide (y ∈ ws)) ws.length))
theorem cr_setX {X : Cx} {K : PySem.W.Frag} {P : Program} {w : World} (hc : X.calm = true) (h : X.K = K := by rfl) (hP : X.prog = P := by rfl) (hw : X.w = w := by rfl) : CallR X (.type "set") (rSetX K P w) := by
  subst h hP hw
  intro pins s σ H xs us Q I r h
  obtain ⟨a, rfl, ws, hs, few, q⟩ := h
  rw [Vals.ref1 r]
  obtain ⟨its, rv, pl, hz⟩ := I.list hs
  refine call_set_txt (P := X.prog) (w := X.w) (I.ok.hd hc) pl.isList (by simpa using rv) few fun h2 tk R2 k2 => ?_
  have R3 : TxtS X.prog X.w h2 s.heap.objs.size (fun y => decide (y ∈ ws)) ws.length := R2.ext (fun y => inW_all ws y) (Nat.le_refl _)
  exact ⟨.ref s.heap.objs.size, L2.upd H s.heap.objs.size (SetX X.prog X.w s.heap.objs.size (fun y => decide (y ∈ ws)) ws.length), I.laid (t' := tk) k2 (Nat.le_refl _) (setX_new R3), rfl, q _ (I.hok.fresh (Nat.le_refl _))⟩
def rSortedX (P : Program) (w : World) : List V → Hp → VK → Prop := fun xs H Q => ∃ a S n, xs = [V.ref a] ∧ H a = some (SetX P w a S n) ∧ n < 64 ∧ ∀ p (ys : List Str), sortS ys = ys → ys.Nodup → (∀ x, x ∈ ys ↔ S x = true) → ys.length ≤ n → H p = none → Q (.ref p) (L2.upd H p (.lst (ys.map V.str)))
theorem cr_sortedX {X : Cx} {P : Program} {w : World} (hc : X.calm = true) (hP : X.prog = P := by rfl) (hw : X.w = w := by rfl) : CallR X (.builtin "sorted") (rSortedX P w) := by
  subst hP hw
  intro pins s σ H xs us Q I r h
  obtain ⟨a, S, n, rfl, ha, few, q⟩ := h
  have R : TxtS X.prog X.w s.heap a S n := (I.hok a _ ha).1
  rw [Vals.ref1 r]
  refine sorted_txt R (I.ok.hd hc) few fun s2 p out c ys k g o hp hg hS hs nd hm hl => ?_
  have len : (ys.map V.str).length ≤ sizeLine := by rw [List.length_map, sizeLine_eq]; omega
  have hn : H p = none := I.hok.fresh hp
  have J : Inv X pins σ (L2.upd H p (.lst (ys.map V.str))) { s with heap := s2.heap, gens := s2.gens, drawn := s2.drawn, toks := s2.toks } :=
    I.call (ch := []) (Un.laid k hp hn) (I.hok.laid k hp ⟨len, out, c, vals_of_strs hS, hg⟩) (by rw [g]; exact I.bare) (fun _ z => nomatch z)
  have e : s2 = { s with heap := s2.heap, gens := s2.gens, drawn := s2.drawn, toks := s2.toks } := by
    cases s2
    cases s
    cases o
    rfl
  rw [e]
  exact ⟨.ref p, _, J, rfl, q p ys (sorted_eq (.refl _) hs).symm nd hm hl hn⟩
end WX
/-! d.update(other dict) -/
namespace WX
open PySem PySem.Spec PyProof.Rows L2 L2H
def tUpd (td ty : TE) : TE := fun σ H Q => td σ H fun x H1 => ∃ a, x = .ref a ∧ ∃ kvs, H1 a = some (.dK kvs) ∧ ty σ H1 fun y H2 => ∃ b, y = .ref b ∧ b ≠ a ∧ H2 a = some (.dK kvs) ∧ ∃ more, H2 b = some (.dK more) ∧ kvs.length + more.length ≤ sizeLine ∧ Q .non (L2.upd H2 a (.dK (mergeK kvs more)))
theorem pe_upd {X : Cx} {o e : Expr} {td ty : TE} {apos cpos : Pos} (ho : PE X o td) (he : PE X e ty) (m : M1 X o "update" apos e cpos) : PE X (.Call (.Attribute o "update" apos) [e] [] cpos) (tUpd td ty) := by
  refine ⟨fun pins s σ H Q I h => wpAny_Call_method m.base m.few m.line PySem.F.plainAttrs_dict PySem.F.slot_dict_update PySem.F.type_dict_update (thn (ho.run pins s σ H _ I h) fun u s1 got => ?_)⟩
  obtain ⟨x, H1, I1, rx, a, ex, kvs, hk, q1⟩ := got
  subst ex
  obtain rfl : u = Value.ref a := rx
  have d := isD_at I1 (.inl ⟨kvs, .inl hk⟩)
  refine ⟨d.1, d.2.1, ?_⟩
  rw [m.trees]
  refine Calls.callWith_builtin rfl (Calls.evalArgs_plain (Calls.spliced_cons (thn (he.run pins s1 σ H1 _ I1 q1) fun iv s2 got2 => Calls.spliced_nil ?_)))
  obtain ⟨y, H2, I2, ry, b, ey, nba, hk2, more, hb, hz, q2⟩ := got2
  subst ey
  obtain rfl : iv = Value.ref b := ry
  obtain ⟨za, ha, vs, ra, da⟩ := dk_of I2.hok hk2
  obtain ⟨zb, hb', ws, rb, db⟩ := dk_of I2.hok hb
  refine call_meetsIn PySem.F.slot_dict_update da.typeIs PySem.F.entry_dict_update (PySem.F.args_dict_update_2 _ _) (meets_dict_update (mixKind X.prog X.w) a b (Ne.symm nba) hb') ⟨vs, ws, da, db, by rw [← ra.length, ← rb.length]; exact hz, fun h' dd' _ hs => ⟨.non, _, ?_, rfl, q2⟩⟩
  have he : ∃ q, h'.get? a = some q := let ⟨q, _, _, hq, _⟩ := dd'; ⟨q, hq⟩
  exact d_write I2 (by rw [hk2]; exact True.intro) hs he (dk_new (Nat.le_trans (length_mergeK more kvs) hz) ha (KV.merge rb ra) dd')
theorem val_put {kvs : List (Key × V)} {k j : Key} {v : V} : (valV (putK kvs k v) j).isSome = ((valV kvs j).isSome || decide (j = k)) := by
  have e : ∀ l : List (Key × V), (valV l j).isSome = l.any fun kv => decide (kv.1 = j) := fun l => by
    unfold valV
    induction l with
    | nil => rfl
    | cons p l ih => simp [List.find?_cons, List.any_cons]; by_cases c : p.1 = j <;> simp [c] <;> simpa using ih
  rw [e, e]
  unfold putK
  split
  · rename_i h
    obtain ⟨p, hp, hk⟩ := List.any_eq_true.mp h
    have hk := of_decide_eq_true hk
    rw [List.any_map]
    have q : ∀ kv : Key × V, (if kv.1 = k then (kv.1, v) else kv).1 = kv.1 := fun kv => by split <;> rfl
    have q2 : ((fun kv : Key × V => decide (kv.1 = j)) ∘ fun kv => if kv.1 = k then (kv.1, v) else kv) = fun kv => decide (kv.1 = j) := funext fun kv => by
      show decide ((if kv.1 = k then (kv.1, v) else kv).1 = j) = _
      rw [q]
    rw [q2]
    by_cases c : j = k
    · rw [decide_eq_true c, Bool.or_true]
      exact List.any_eq_true.mpr ⟨p, hp, decide_eq_true (hk.trans c.symm)⟩
    · rw [decide_eq_false c, Bool.or_false]
  · rw [List.any_append, List.any_cons, List.any_nil, Bool.or_false]
    congr 1
    exact decide_eq_decide.mpr ⟨fun h => h.symm, fun h => h.symm⟩
theorem val_merge (more : List (Key × V)) : ∀ (kvs : List (Key × V)) (j : Key), (valV (mergeK kvs more) j).isSome = ((valV kvs j).isSome || more.any fun p => decide (p.1 = j)) := by
  induction more with
  | nil => intro kvs j; exact (Bool.or_false _).symm
  | cons p more ih =>
    intro kvs j
    show (valV (mergeK (putK kvs p.1 p.2) more) j).isSome = _
    rw [ih, val_put, Bool.or_assoc, List.any_cons]
    congr 2
    exact decide_eq_decide.mpr ⟨fun h => h.symm, fun h => h.symm⟩
end WX
/-! a set comprehension of texts with two fors: a clause's loop with its body left open, used twice -/
namespace WX
open PySem PySem.Spec PyProof.Rows L2 PpSet
/-- one turn of a clause -/
def clauseT (tg iter : Expr) (ifs : List Expr) (BODY : Sem Fin → Sem Fin) (lp : Code) (it : Value) (env : Env) : Sem Fin := do
  standAt iter.pos
  match ← pyNext it with
  | none => pure (.done .next)
  | some v =>
    letOwnedTupleGo tg it v
    assign tg env v
    let ok ← forIn ifs true fun c r => if r = true then do let ok ← isTrue c env (eval c env); pure (ForInStep.yield ok) else pure (ForInStep.yield r)
    if ok = true then BODY (again lp) else again lp
section
variable {X : Cx} {pins : List (Addr × Obj)} {lp : Code} {tg iter : Expr} {ifs : List Expr} {BODY : Sem Fin → Sem Fin} {it : Addr} {fp : List Addr} {tn : Nat → Heap → Prop} {J : It} {R : Result → Shared → Prop} {σ : L2.St} {vs vs1 : List Nat} {g : TG} {tt : TT} {tb : L2.St → Hp → (Hp → Prop) → Prop} {Qd : Hp → Prop} {H : Hp} {s : Shared} {m0 : Nat}
/-- what a clause's body does: it goes on with what it is told -/
def PB (X : Cx) (BODY : Sem Fin → Sem Fin) (vs1 : List Nat) (tb : L2.St → Hp → (Hp → Prop) → Prop) : Prop := ∀ (pins : List (Addr × Obj)) (s : Shared) (σ : L2.St) (H : Hp) (Q : Hp → Prop) (k : Sem Fin) (QF : Fin → Shared → Prop), Inv X pins σ H s → tb σ H Q →
  (∀ s' H', Inv X pins (wipe σ vs1) H' s' → Q H' → wpAny (model X.prog X.w) X.A k QF (fun _ _ => False) s') → wpAny (model X.prog X.w) X.A (BODY k) QF (fun _ _ => False) s
theorem clause_loop (hq : lp.quiet = true) (hxe : X.xe = fun _ _ => False)
    (hd : ∀ (Q : Fin → Shared → Prop) (s : Shared), wpAny (model X.prog X.w) X.A (clauseT tg iter ifs BODY lp (.ref it) X.env) Q (fun _ _ => False) s → wpAny (model X.prog X.w) (X.A.under lp) ((model X.prog X.w).den lp) Q (fun e s' => R (.error e) s') s)
    (hc : X.calm = true) (T : Turn X.prog X.w X.K tg J fp it tn) (stat : ∀ {σ' : L2.St} {H' : Hp} {s' : Shared}, Inv X pins σ' H' s' → (∀ b ∈ fp, H' b = none) → ∀ b ∈ fp, FpOk X pins H' b)
    (pg : PG X tg g) (pt : PTs X ifs tt) (pb : PB X BODY vs1 tb) (hv : ∀ i ∈ vs1, i ∈ vs)
    (W : Nat → Nat → Hp → Prop) (turn : ∀ i m H, W i m H → (J.stop i H ∧ Qd H) ∨ (J.go i H ∧ ∃ Nx : Hp → Prop, (∀ H', Nx H' → ∃ m', m' < m ∧ W (i + 1) m' H') ∧ ∀ x H', J.yld i H x H' → g x (wipe σ vs) H' fun σ2 H2 => wipe σ2 vs = wipe σ vs ∧ tt σ2 H2 fun b H3 => if b = true then tb σ2 H3 Nx else Nx H3))
    (hdone : ∀ s' H', Inv X pins (wipe σ vs) H' s' → Qd H' → R (.ok .next) s')
    (I : Inv X pins (wipe σ vs) H s) (st : tn 0 s.heap) (hn : ∀ b ∈ fp, H b = none) (w0 : W 0 m0 H) : codeAny (model X.prog X.w) X.A lp R s := by
  refine codeAny_loop hq (fun n s' => ∃ i H', Inv X pins (wipe σ vs) H' s' ∧ tn i s'.heap ∧ (∀ b ∈ fp, H' b = none) ∧ W i n H') ?_ m0 ⟨0, H, I, st, hn, w0⟩
  rintro n s1 ⟨i, H1, I1, st1, n1, w1⟩
  refine hd _ s1 ?_
  unfold clauseT
  refine wpAny_bind (wpAny_standAt (wpAny_bind ?_))
  rcases turn i n H1 w1 with ⟨stop, qq⟩ | ⟨go, Nx, hNx, step⟩
  · refine wpAny_mono (T.done X rfl rfl rfl hc i pins s1 _ H1 (fun _ _ => False) I1 (stat I1 n1) st1 stop) (fun r s2 ⟨hr, I2⟩ => ?_) fun _ _ z => z
    subst hr
    exact wpAny_pure (hdone s2 H1 I2 qq)
  · refine wpAny_mono (T.item X rfl rfl rfl hc i pins s1 _ H1 (fun _ _ => False) I1 (stat I1 n1) st1 go) (fun r s2 ⟨u, hr, h2⟩ => ?_) fun _ _ z => z
    subst hr
    refine wpAny_bind (wpAny_mono h2 (fun _ s3 ⟨x, H3, I3, r3, y3, st3, n3⟩ => ?_) fun _ _ z => z)
    have I3' := I3.pinned (stat I3 n3) (T.obj _ _ st3)
    have e1 := pg.run _ s3 _ H3 x u _ I3' r3 (step x H3 y3)
    rw [hxe] at e1
    refine wpAny_bind (wpAny_mono e1 (fun _ s4 ⟨σ4, H4, I4, hw4, q4⟩ => ?_) fun _ _ z => z)
    have e2 := pt.run _ s4 σ4 H4 _ I4 q4
    rw [hxe] at e2
    refine wpAny_bind (wpAny_mono e2 (fun b s5 ⟨H5, I5, q5⟩ => ?_) fun _ _ z => z)
    have fin : ∀ {σ9 : L2.St} {s' : Shared} {H' : Hp}, Inv X (pins ++ pinsAt fp s3.heap) σ9 H' s' → σ9.length = σ4.length → (∀ (j : Nat) v, (wipe σ vs)[j]? = some (some v) → σ9[j]? = some (some v)) → Nx H' →
        wpAny (model X.prog X.w) X.A (again lp) (fun fin s' => match fin with | .done f => R (.ok f) s' | .again c' => c' = lp ∧ ∃ m, m < n ∧ ∃ i H', Inv X pins (wipe σ vs) H' s' ∧ tn i s'.heap ∧ (∀ b ∈ fp, H' b = none) ∧ W i m H') (fun _ _ => False) s' := fun {σ9 s' H'} I' hl hk nx => by
      obtain ⟨m', hm, w'⟩ := hNx H' nx
      have pin' : ∀ b ∈ fp, ∀ o, s3.heap.get? b = some o → s'.heap.get? b = some o ∧ H' b = none := fun b hb o e =>
        let z := I'.pin (b, o) (List.mem_append_right _ (List.mem_append_right _ (mem_pinsAt hb e)))
        ⟨z.1, z.2.1⟩
      have hl' : (wipe σ vs).length = σ9.length := by rw [hl, ← wipe_length σ4 vs, hw4]
      refine wpAny_pure ⟨rfl, m', hm, i + 1, H', I'.unpinned.weak hl' hk, T.keep _ _ _ st3 fun b hb o e => (pin' b hb o e).1, fun b hb => ?_, w'⟩
      obtain ⟨o, e, _⟩ := T.obj _ _ st3 b hb
      exact (pin' b hb o e).2
    have k4 : ∀ (j : Nat) v, (wipe σ vs)[j]? = some (some v) → σ4[j]? = some (some v) ∧ j ∉ vs := fun j v e => wipe_some (by rw [hw4]; exact e)
    cases b with
    | false =>
      simp only [Bool.false_eq_true, if_false] at q5 ⊢
      exact fin I5 rfl (fun j v e => (k4 j v e).1) q5
    | true =>
      simp only [if_true] at q5 ⊢
      exact pb _ s5 σ4 H5 Nx _ _ I5 q5 fun s' H' I' nx => fin I' (wipe_length σ4 vs1) (fun j v e => by rw [wipe_out fun z => (k4 j v e).2 (hv j z)]; exact (k4 j v e).1) nx
end
/-! ### the two clauses of a set comprehension -/
abbrev SC2 (elt t0 i0 t1 i1 : Expr) (ifs0 ifs1 : List Expr) (scope : Scope) (pos : Pos) : Expr := .SetComp elt [⟨t0, i0, ifs0, 0⟩, ⟨t1, i1, ifs1, 0⟩] scope pos
section
variable {elt t0 i0 t1 i1 : Expr} {ifs0 ifs1 : List Expr} {scope : Scope} {pos : Pos} {it acc : Value} {env : Env}
theorem sc2_in : compTurn (SC2 elt t0 i0 t1 i1 ifs0 ifs1 scope pos) 1 it acc env = clauseT t1 i1 ifs1 (fun k => (do let v ← eval elt env; standAt elt.pos; let _ ← call (.builtin "set.add") [acc, v]) >>= fun _ => k) (.compLoop (SC2 elt t0 i0 t1 i1 ifs0 ifs1 scope pos) 1 it acc env) it env := by rfl
theorem sc2_out : compTurn (SC2 elt t0 i0 t1 i1 ifs0 ifs1 scope pos) 0 it acc env = clauseT t0 i0 ifs0 (fun k => do
    let x ← eval i1 env
    standAt i1.pos
    let x ← foldedSetIterable i1 env x
    let _ ← runOwn (.compStart (SC2 elt t0 i0 t1 i1 ifs0 ifs1 scope pos) 1 (← holding [x] (pyIter x)) acc env) env
    k) (.compLoop (SC2 elt t0 i0 t1 i1 ifs0 ifs1 scope pos) 0 it acc env) it env := by rfl
end
section
variable {prog : Program} {w : World} {A : Around} {R : Result → Shared → Prop} {s : Shared} {elt t0 i0 t1 i1 : Expr} {ifs0 ifs1 : List Expr} {scope : Scope} {pos : Pos} {it acc : Value} {env : Env}
/-- the second clause begins: its iterator is asked for itself -/
theorem sc2_start (h0 : codeAny (model prog w) A (.compLoop (SC2 elt t0 i0 t1 i1 ifs0 ifs1 scope pos) 1 it acc env) R s)
    (h : wpAny (model prog w) A (pyIter it) (fun it' s' => codeAny (model prog w) A (.compLoop (SC2 elt t0 i0 t1 i1 ifs0 ifs1 scope pos) 1 it' acc env) R s') (fun _ _ => False) s) : codeAny (model prog w) A (.compStart (SC2 elt t0 i0 t1 i1 ifs0 ifs1 scope pos) 1 it acc env) R s := by
  refine codeAny_of_tree ?_
  show wpAny _ _ ((compStart (SC2 elt t0 i0 t1 i1 ifs0 ifs1 scope pos) 1 it acc env).onRaise (fun x => do noteFrame x env; standAt theWindowsPlace)) _ _ s
  refine wpAny_notedAt ?_
  unfold compStart
  show wpAny _ _ (ask >>= _) _ _ s
  refine wpAny_bind (wpAny_askSetting (wpAny_ite ?_))
  have h2 := thnF h (Q' := fun it' s' => codeAny (model prog w) A (.compLoop (SC2 elt t0 i0 t1 i1 ifs0 ifs1 scope pos) 1 it' acc env) R s') (E := notedBy (model prog w) A env fun x s' => R (.error x) s') fun _ _ q => q
  split
  · first
      | exact wpAny_pure (And.intro rfl h0)
      | exact wpAny_bind (wpAny_pure (wpAny_pure (And.intro rfl h0)))
  · refine wpAny_bind (wpAny_rule ?_)
    show wpAny _ _ (standAt i1.pos >>= _) _ _ s
    exact wpAny_bind (wpAny_standAt (wpAny_bind (wpAny_mono h2 (fun it' s' q => wpAny_pure (And.intro rfl q)) fun _ _ z => z)))
end
section
variable {P : Program} {w : World} {A : Around} {E : Value → Shared → Prop} {s : Shared}
theorem TxtS.typeIs {a : Addr} {S : Str → Bool} {n : Nat} (R : TxtS P w s.heap a S n) : s.TypeIs (.ref a) "set" := by
  obtain ⟨es, ep, t, r, _⟩ := R
  obtain ⟨o, ho, hx, hd⟩ := r.ob
  exact ⟨o, ho, hx.1⟩
theorem call_txt_add {a : Addr} {S : Str → Bool} {n : Nat} {x : Str} {tk : Tok} {Q : Value → Shared → Prop} (R : TxtS P w s.heap a S n) (room : n + 1 < scanBound)
    (hQ : ∀ h', Heap.SameBut a s.heap h' → TxtS P w h' a (fun y => S y || decide (y = x)) (n + 1) → Q .none { s with heap := h', toks := s.toks + 1 }) : wpAny (model P w) A (call (.builtin "set.add") [.ref a, .str x tk]) Q E s := by
  refine wpAny_call_entry F.slot_set_add R.typeIs F.entry_set_add ?_ (F.args_set_add_2 _ _)
  unfold Builtin.«set.add» Builtin.Frozenset.oneOther
  simp only [List.isEmpty_nil, bind_assoc]
  unfold Builtin.Frozenset.addrOf setAdd
  refine wpAny_bind (wpAny_pure ?_)
  try dsimp only
  refine wpAny_bind (wpAny_pure ?_)
  try dsimp only
  refine wpAny_bind (wpAny_holding (wpAny_bind ((mixKind P w).pyHash (k := Sum.inr x) (kV_is (k := Sum.inr x) ⟨tk, rfl⟩) ?_)))
  refine txt_add (s := { s with toks := s.toks + 1 }) R room fun b h' sb r => ?_
  show wpAny _ _ (ret Value.none) _ _ _
  exact wpAny_pure ⟨_, rfl, hQ h' sb r⟩
theorem nd_len' {α : Type} [DecidableEq α] : ∀ (l m : List α), l.Nodup → (∀ x ∈ l, x ∈ m) → l.length ≤ m.length
  | [], _, _, _ => Nat.zero_le _
  | x :: l, m, nd, h => by
    obtain ⟨n1, n2⟩ := List.nodup_cons.mp nd
    have hx := h x List.mem_cons_self
    have := nd_len' l (m.erase x) n2 fun y hy => (List.mem_erase_of_ne (fun e => n1 (by rw [← e]; exact hy))).mpr (h y (List.mem_cons_of_mem _ hy))
    rw [List.length_erase_of_mem hx] at this
    have := List.length_pos_of_mem hx
    rw [List.length_cons]
    omega
/-- no more members than there are texts to choose from -/
theorem TxtS.cap {h : Heap} {a : Addr} {S : Str → Bool} {n : Nat} {L : List Str} (R : TxtS P w h a S n) (hL : ∀ z, S z = true → z ∈ L) : TxtS P w h a S L.length := by
  obtain ⟨es, ep, t, r, _⟩ := R
  refine ⟨es, ep, t, r, ?_⟩
  have := nd_len' (es.toList.map txt) L r.nd fun x hx => hL x ((r.mem x).mpr hx)
  rwa [List.length_map, Array.length_toList] at this
theorem addX_ok {X : Cx} {pins : List (Addr × Obj)} {σ : L2.St} {H : Hp} {s : Shared} {E : Value → Shared → Prop} {D : Addr} {S : Str → Bool} {n m : Nat} {y : Str} {u : Value} {Q : Value → Shared → Prop} (I : Inv X pins σ H s) (hD : H D = some (SetX X.prog X.w D S n)) (room : n + 1 < scanBound) (hm : m = n + 1 ∨ ∃ L : List Str, (∀ z, (S z || decide (z = y)) = true → z ∈ L) ∧ m = L.length) (ry : RelV (.str y) u)
    (h : ∀ s', Inv X pins σ (L2.upd H D (SetX X.prog X.w D (fun j => S j || decide (j = y)) m)) s' → Q .none s') : wpAny (model X.prog X.w) X.A (call (.builtin "set.add") [.ref D, u]) Q E s := by
  have R : TxtS X.prog X.w s.heap D S n := (I.hok D _ hD).1
  obtain ⟨tk, rfl⟩ := ry
  refine call_txt_add R room fun h' sb new0 => ?_
  have new : TxtS X.prog X.w h' D (fun j => S j || decide (j = y)) m := by
    rcases hm with rfl | ⟨L, hL, rfl⟩
    · exact new0
    · exact new0.cap hL
  have he : ∃ u, h'.get? D = some u := by
    obtain ⟨es, ep, t, r, _⟩ := id new
    obtain ⟨o, ho, _⟩ := r.ob
    exact ⟨o, ho⟩
  exact h _ (I.write (e := D) (t' := s.toks + 1) (by rw [hD]; trivial) (.inl rfl) (fun b u hb hu => (sb.2 b hb).trans hu) he (setX_new new))
end
end WX
/-! {text for .. in .. if .. for .. in .. if ..} -/
namespace WX
open PySem PySem.Spec PyProof.Rows L2 PpSet
section
variable {X : Cx}
/-- the added member: D grows -/
def tbAdd (P : Program) (w : World) (D : Addr) (te : TE) : L2.St → Hp → (Hp → Prop) → Prop := fun σ H Q => te σ H fun y H1 => ∃ (x : Str) (S : Str → Bool) (n m : Nat), y = .str x ∧ H1 D = some (SetX P w D S n) ∧ n + 1 < scanBound ∧ (m = n + 1 ∨ ∃ L : List Str, (∀ z, (S z || decide (z = x)) = true → z ∈ L) ∧ m = L.length) ∧ Q (L2.upd H1 D (SetX P w D (fun j => S j || decide (j = x)) m))
/-- a clause walked: from Q's place -/
def tbFor (wi : TI) (g : TG) (tt : TT) (tb : L2.St → Hp → (Hp → Prop) → Prop) (vs : List Nat) : L2.St → Hp → (Hp → Prop) → Prop := fun σ H Q => wi σ H fun J H1 => ∃ W : Nat → Nat → Hp → Prop, (∃ m, W 0 m H1) ∧ ∀ i m H, W i m H →
  (J.stop i H ∧ Q H) ∨ (J.go i H ∧ ∃ Nx : Hp → Prop, (∀ H', Nx H' → ∃ m', m' < m ∧ W (i + 1) m' H') ∧ ∀ x H', J.yld i H x H' → g x (wipe σ vs) H' fun σ2 H2 => wipe σ2 vs = wipe σ vs ∧ tt σ2 H2 fun b H3 => if b = true then tb σ2 H3 Nx else Nx H3)
/-- the whole: D the new set -/
def tSc2 (P : Program) (w : World) (wi : TI) (g : TG) (tt : TT) (wi1 : TI) (g1 : TG) (tt1 : TT) (te : TE) (vs vs1 : List Nat) : TE := fun σ H Q => wi σ H fun J H1 => ∀ D, H1 D = none → ∃ W : Nat → Nat → Hp → Prop, (∃ m, W 0 m (L2.upd H1 D (SetX P w D (fun _ => false) 0))) ∧ ∀ i m H, W i m H →
  (J.stop i H ∧ Q (.ref D) H) ∨ (J.go i H ∧ ∃ Nx : Hp → Prop, (∀ H', Nx H' → ∃ m', m' < m ∧ W (i + 1) m' H') ∧ ∀ x H', J.yld i H x H' → g x (wipe σ vs) H' fun σ2 H2 => wipe σ2 vs = wipe σ vs ∧ tt σ2 H2 fun b H3 => if b = true then tbFor wi1 g1 tt1 (tbAdd P w D te) vs1 σ2 H3 Nx else Nx H3)
variable {elt t0 i0 t1 i1 : Expr} {ifs0 ifs1 : List Expr} {scope : Scope} {pos : Pos} {te : TE} {D : Addr}
theorem pb_add (hxe : X.xe = fun _ _ => False) (he : PE X elt te) : PB X (fun k => (do let v ← eval elt X.env; standAt elt.pos; let _ ← call (.builtin "set.add") [.ref D, v]) >>= fun _ => k) [] (tbAdd X.prog X.w D te) := by
  intro pins s σ H Q k QF I h hk
  have e := he.run pins s σ H _ I h
  rw [hxe] at e
  refine wpAny_bind (wpAny_bind (wpAny_mono e (fun u s1 ⟨y, H1, I1, r1, x, S, n, m, ey, hD, room, hm, q⟩ => ?_) fun _ _ z => z))
  subst ey
  exact wpAny_bind (wpAny_standAt (wpAny_bind (addX_ok I1 hD room hm r1 fun s2 I2 => wpAny_pure (hk s2 _ I2 q))))
variable {wi1 : TI} {g1 : TG} {tt1 : TT} {vs1 : List Nat}
theorem pb_for (hc : X.calm = true) (hxe : X.xe = fun _ _ => False) (hs1 : ∀ x, foldedSetIterable i1 X.env x = pure x) (hi1 : PI X t1 i1 wi1) (hg1 : PG X t1 g1) (ht1 : PTs X ifs1 tt1) (he : PE X elt te) : PB X (fun k => do
    let x ← eval i1 X.env
    standAt i1.pos
    let x ← foldedSetIterable i1 X.env x
    let _ ← runOwn (.compStart (SC2 elt t0 i0 t1 i1 ifs0 ifs1 scope pos) 1 (← holding [x] (pyIter x)) (.ref D) X.env) X.env
    k) vs1 (tbFor wi1 g1 tt1 (tbAdd X.prog X.w D te) vs1) := by
  intro pins s σ H Q k QF I h hk
  have e := hi1.run pins s σ H _ I h
  rw [hxe] at e
  refine wpAny_bind (wpAny_mono e (fun xv s1 hx => ?_) fun _ _ z => z)
  refine wpAny_bind (wpAny_standAt (wpAny_bind (wpAny_of_eq (hs1 xv) (wpAny_bind (wpAny_holding (wpAny_mono hx (fun itv s2 h2 => ?_) fun _ _ z => z))))))
  obtain ⟨it, fp, tn, J, H2, e2, I2, T, st2, f2, W, ⟨m0, w0⟩, turn⟩ := h2
  subst e2
  refine wpAny_bind (wpAny_runOwn ?_)
  rw [Around.mark_none]
  have loop : codeAny (model X.prog X.w) X.A (.compLoop (SC2 elt t0 i0 t1 i1 ifs0 ifs1 scope pos) 1 (.ref it) (.ref D) X.env) (fun r s' => match r with
      | .ok _ => ∃ H', Inv X pins (wipe σ vs1) H' s' ∧ Q H'
      | .error _ => False) s2 := by
    refine clause_loop (X := X) (pins := pins) (σ := σ) (vs := vs1) (vs1 := []) (m0 := m0) (H := H2) (tg := t1) (iter := i1) (ifs := ifs1) (g := g1) (tt := tt1) (tb := tbAdd X.prog X.w D te) (Qd := Q) rfl hxe (fun Qf s' q => ?_) hc T (fun I' n b hb => ⟨n b hb, (f2 b hb).2⟩) hg1 ht1 (pb_add hxe he) (fun i z => (by cases z)) W turn (fun s' H' I' q => ⟨H', I', q⟩) (I2.weak (wipe_length _ _) (fun j v e => (wipe_some e).1)) st2 (fun b hb => (f2 b hb).1) w0
    show wpAny _ X.A ((compTurn (SC2 elt t0 i0 t1 i1 ifs0 ifs1 scope pos) 1 (.ref it) (.ref D) X.env).onRaise (fun x => do noteFrame x X.env; theTreesLotGoes x)) _ _ s'
    refine wpAny_noted ?_
    rw [sc2_in]
    exact wpAny_mono q (fun _ _ z => z) fun _ _ z => z.elim
  refine codeAny_mono (sc2_start loop (T.self X.A 0 _ _ _ st2 loop)) fun r s' hr => ?_
  cases r with
  | ok f => obtain ⟨H', I', q⟩ := hr; exact hk s' H' I' q
  | error e => exact hr.elim
theorem pe_sc2 {wi : TI} {g : TG} {tt : TT} {own : List (Str × Nat)} (hc : X.calm = true) (hN : X.N.Nodup) (hi : PI X t0 i0 wi) (ok : BlkOk X.N X.env.scope scope own) (hv : ∀ i ∈ vs1, i ∈ own.map (·.2))
    (hg : ∀ (s : Shared) (H : Hp) (C : Addr) (cl : List (Str × Addr)) (fp : List Addr), PG (X.blk s H scope (compEnvC scope cl C X.env) fp) t0 g) (ht : ∀ (s : Shared) (H : Hp) (C : Addr) (cl : List (Str × Addr)) (fp : List Addr), PTs (X.blk s H scope (compEnvC scope cl C X.env) fp) ifs0 tt)
    (hi1 : ∀ (s : Shared) (H : Hp) (C : Addr) (cl : List (Str × Addr)) (fp : List Addr), PI (X.blk s H scope (compEnvC scope cl C X.env) fp) t1 i1 wi1)
    (hg1 : ∀ (s : Shared) (H : Hp) (C : Addr) (cl : List (Str × Addr)) (fp : List Addr), PG (X.blk s H scope (compEnvC scope cl C X.env) fp) t1 g1) (ht1 : ∀ (s : Shared) (H : Hp) (C : Addr) (cl : List (Str × Addr)) (fp : List Addr), PTs (X.blk s H scope (compEnvC scope cl C X.env) fp) ifs1 tt1)
    (he : ∀ (s : Shared) (H : Hp) (C : Addr) (cl : List (Str × Addr)) (fp : List Addr), PE (X.blk s H scope (compEnvC scope cl C X.env) fp) elt te) (hs : ∀ x, foldedSetIterable i0 X.env x = pure x := by intro _; rfl) (hs1 : ∀ env x, foldedSetIterable i1 env x = pure x := by intro _ _; rfl) :
    PE X (SC2 elt t0 i0 t1 i1 ifs0 ifs1 scope pos) (tSc2 X.prog X.w wi g tt wi1 g1 tt1 te (own.map (·.2)) vs1) := by
  refine ⟨fun pins s σ H Q I h => ?_⟩
  rw [eval_SetComp]
  have hfree : ∀ y ∈ scope.names, y.2 = .free → ∃ c, X.env.cells.lookup y.1 = some c := fun y hy e => I.ok.has _ (ok.free y hy e)
  refine wpAny_comprehension_free (use := none) rfl hs (closure_ok hfree) ok.kind (fun y hy e => by rw [ok.uniq y hy, e]) (thn (hi.run pins s σ H _ I h) fun xv s1 hx => thn hx fun itv s2 h2 => ?_)
  obtain ⟨it, fp, tn, J, H2, e2, I2, T, st2, f2, q⟩ := h2
  subst e2
  refine newSet_ok (newEnv_comp ?_)
  generalize hD : s2.heap.objs.size = D
  obtain ⟨W, ⟨m0, w0⟩, turn⟩ := q D (I2.hok.fresh (Nat.le_of_eq hD))
  generalize hs3 : ({ s2 with heap := s2.heap.push { cls := .type "set", dict := none, data := .set #[] 0 (.fresh 0 0 (!X.w.params.followText "set-order")) } } : Shared) = s3
  have h3 : s3.heap = s2.heap.push { cls := .type "set", dict := none, data := .set #[] 0 (.fresh 0 0 (!X.w.params.followText "set-order")) } := by rw [← hs3]
  have new : TxtS X.prog X.w (s2.heap.push { cls := .type "set", dict := none, data := .set #[] 0 (.fresh 0 0 (!X.w.params.followText "set-order")) }) D (fun _ => false) 0 := by
    rw [← hD]
    exact TxtS.fresh (Heap.get?_push_size _ rfl)
  have I3 : Inv X pins σ (L2.upd H2 D (SetX X.prog X.w D (fun _ => false) 0)) s3 := by
    rw [← hs3]
    exact I2.laid (t' := s2.toks) (fun b o e => Heap.get?_push_of_some _ e) (Nat.le_of_eq hD) (setX_new new)
  have lt2 : ∀ b ∈ fp, b < s2.heap.objs.size := fun b hb => by
    obtain ⟨o, e, _⟩ := T.obj _ _ st2 b hb
    exact Heap.lt_size e
  have f3 : ∀ b ∈ fp, FpOk X pins (L2.upd H2 D (SetX X.prog X.w D (fun _ => false) 0)) b ∧ b < s3.heap.objs.size := fun b hb => by
    refine ⟨⟨?_, (f2 b hb).2⟩, by rw [h3, Heap.size_push]; exact Nat.lt_succ_of_lt (lt2 b hb)⟩
    rw [upd_ne (by rw [← hD]; exact Nat.ne_of_lt (lt2 b hb))]
    exact (f2 b hb).1
  have st3 : tn 0 s3.heap := T.keep _ _ _ st2 fun b _ o e => by rw [h3]; exact Heap.get?_push_of_some _ e
  have I4 := block_start I3 ok hN f3
  generalize hH3 : L2.upd H2 D (SetX X.prog X.w D (fun _ => false) 0) = H3 at I3 I4 w0 f3
  generalize hcl : cellsFrom (s3.heap.objs.size + 1) scope.names (cloFrom X.env.cells scope.names []) = cl at I4 ⊢
  have pg := hg s3 H3 s3.heap.objs.size cl fp
  have pt := ht s3 H3 s3.heap.objs.size cl fp
  have pe := he s3 H3 s3.heap.objs.size cl fp
  have pi1 := hi1 s3 H3 s3.heap.objs.size cl fp
  have pg1 := hg1 s3 H3 s3.heap.objs.size cl fp
  have pt1 := ht1 s3 H3 s3.heap.objs.size cl fp
  generalize hce : compEnvC scope cl s3.heap.objs.size X.env = ce at I4 pg pt pe pi1 pg1 pt1 ⊢
  have cL : ce.locals = s3.heap.objs.size := by subst hce; rfl
  generalize hs4 : ({ s3 with heap := pushCells (s3.heap.push { cls := .type "dict", data := .dict #[] }) scope.names } : Shared) = s4 at I4
  have st4 : tn 0 s4.heap := T.keep _ _ _ st3 fun b _ o e => by rw [← hs4]; exact pushCells_keeps _ _ _ _ (Heap.get?_push_of_some _ e)
  have loop : codeAny (model X.prog X.w) X.A (.compLoop (SC2 elt t0 i0 t1 i1 ifs0 ifs1 scope pos) 0 (.ref it) (.ref D) ce) (compPost (model X.prog X.w) X.A X.xe none (EP X pins σ Q) (.ref D) s3.heap.objs.size) s4 := by
    refine clause_loop (X := X.blk s3 H3 scope ce fp) (BODY := fun k => do
      let x ← eval i1 ce
      standAt i1.pos
      let x ← foldedSetIterable i1 ce x
      let _ ← runOwn (.compStart (SC2 elt t0 i0 t1 i1 ifs0 ifs1 scope pos) 1 (← holding [x] (pyIter x)) (.ref D) ce) ce
      k) (pins := []) (σ := σ) (vs := own.map (·.2)) (vs1 := vs1) (m0 := m0) (H := H3) (tg := t0) (iter := i0) (ifs := ifs0) (g := g) (tt := tt) (tb := tbFor wi1 g1 tt1 (tbAdd X.prog X.w D te) vs1) (Qd := Q (.ref D)) rfl rfl (fun Qf s' q => ?_) hc T (fun {σ' H' s'} I' hn b hb => ⟨hn b hb, (I'.ok.exf b hb).1, I'.ok.exfs b hb, .inl hb, fun x c e => (I'.ok.exf b hb).2 x c e, fun p hp => absurd (show p ∈ ([] : List (Addr × Obj)) ++ [] from hp) (by simp)⟩)
      pg pt (pb_for (X := X.blk s3 H3 scope ce fp) (t0 := t0) (i0 := i0) (ifs0 := ifs0) (scope := scope) (pos := pos) hc rfl (hs1 ce) pi1 pg1 pt1 pe) hv W turn (fun s' H' I' qq => ?_) I4 st4 (fun b hb => (f3 b hb).1.1) w0
    · show wpAny _ X.A ((compTurn (SC2 elt t0 i0 t1 i1 ifs0 ifs1 scope pos) 0 (.ref it) (.ref D) ce).onRaise (fun x => do noteFrame x ce; theTreesLotGoes x)) _ _ s'
      refine wpAny_noted ?_
      rw [sc2_out]
      exact wpAny_mono q (fun _ _ z => z) fun _ _ z => z.elim
    · have I7 : Inv X pins σ H' s' := I3.call' (ch := fp) I'.os I'.base I'.hok I'.bare fun b hb => ⟨(f3 b hb).1.2.2.2.1, (f3 b hb).1.2.1, (f3 b hb).1.2.2.2.2.1, (f3 b hb).1.2.2.2.2.2⟩
      have nC : H' s3.heap.objs.size = none := by
        have z : H' ce.locals = none := I'.free
        rw [cL] at z
        exact z
      obtain ⟨m, hn, _⟩ := I'.loc
      have hn : s'.heap.Ns ce.locals m := hn
      rw [cL] at hn
      obtain ⟨f0, f1, f2', f3', f4, f5⟩ := I3.fpOk (H' := H') (Nat.le_refl _) nC
      exact ⟨m, hn, fun h'' sb => ⟨.ref D, H', I7.turned (t' := s'.toks) (fun b o hb e => (sb.2 b hb).trans e) f0 f1 f3' f4 f5, rfl, qq⟩⟩
  subst hs4
  rw [← hce] at loop
  exact codeAny_compStart_set loop (T.self X.A 0 _ _ _ st4 loop)
end
end WX
namespace WX
open PySem PySem.Spec PyProof.Rows L2 PpSet
theorem pe_sc2P {X : Cx} {P : Program} {w : World} {elt t0 i0 t1 i1 : Expr} {ifs0 ifs1 : List Expr} {scope : Scope} {pos : Pos} {te : TE} {wi wi1 : TI} {g g1 : TG} {tt tt1 : TT} {own : List (Str × Nat)} {vs1 : List Nat} (hc : X.calm = true) (hN : X.N.Nodup) (hi : PI X t0 i0 wi) (ok : BlkOk X.N X.env.scope scope own) (hv : ∀ i ∈ vs1, i ∈ own.map (·.2))
    (hg : ∀ (s : Shared) (H : Hp) (C : Addr) (cl : List (Str × Addr)) (fp : List Addr), PG (X.blk s H scope (compEnvC scope cl C X.env) fp) t0 g) (ht : ∀ (s : Shared) (H : Hp) (C : Addr) (cl : List (Str × Addr)) (fp : List Addr), PTs (X.blk s H scope (compEnvC scope cl C X.env) fp) ifs0 tt)
    (hi1 : ∀ (s : Shared) (H : Hp) (C : Addr) (cl : List (Str × Addr)) (fp : List Addr), PI (X.blk s H scope (compEnvC scope cl C X.env) fp) t1 i1 wi1)
    (hg1 : ∀ (s : Shared) (H : Hp) (C : Addr) (cl : List (Str × Addr)) (fp : List Addr), PG (X.blk s H scope (compEnvC scope cl C X.env) fp) t1 g1) (ht1 : ∀ (s : Shared) (H : Hp) (C : Addr) (cl : List (Str × Addr)) (fp : List Addr), PTs (X.blk s H scope (compEnvC scope cl C X.env) fp) ifs1 tt1)
    (he : ∀ (s : Shared) (H : Hp) (C : Addr) (cl : List (Str × Addr)) (fp : List Addr), PE (X.blk s H scope (compEnvC scope cl C X.env) fp) elt te) (hP : X.prog = P := by rfl) (hw : X.w = w := by rfl) (hs : ∀ x, foldedSetIterable i0 X.env x = pure x := by intro _; rfl) (hs1 : ∀ env x, foldedSetIterable i1 env x = pure x := by intro _ _; rfl) :
    PE X (.SetComp elt [⟨t0, i0, ifs0, 0⟩, ⟨t1, i1, ifs1, 0⟩] scope pos) (tSc2 P w wi g tt wi1 g1 tt1 te (own.map (·.2)) vs1) := hP ▸ hw ▸ pe_sc2 hc hN hi ok hv hg ht hi1 hg1 ht1 he hs hs1
/-- set(texts), its members among those of L -/
def rSetXc (K : PySem.W.Frag) (P : Program) (w : World) : List V → Hp → VK → Prop := fun xs H Q => ∃ a, xs = [V.ref a] ∧ ∃ ws : List Str, SqL K H a (ws.map V.str) ∧ ws.length ≤ 100 ∧ ∃ L : List Str, (∀ y ∈ ws, y ∈ L) ∧ ∀ p, H p = none → Q (.ref p) (L2.upd H p (SetX P w p (fun y => decide (y ∈ ws)) L.length))
theorem cr_setXc {X : Cx} {K : PySem.W.Frag} {P : Program} {w : World} (hc : X.calm = true) (h : X.K = K := by rfl) (hP : X.prog = P := by rfl) (hw : X.w = w := by rfl) : CallR X (.type "set") (rSetXc K P w) := by
  subst h hP hw
  intro pins s σ H xs us Q I r h
  obtain ⟨a, rfl, ws, hs, few, L, hL, q⟩ := h
  rw [Vals.ref1 r]
  obtain ⟨its, rv, pl, hz⟩ := I.list hs
  refine call_set_txt (P := X.prog) (w := X.w) (I.ok.hd hc) pl.isList (by simpa using rv) few fun h2 tk R2 k2 => ?_
  have R3 : TxtS X.prog X.w h2 s.heap.objs.size (fun y => decide (y ∈ ws)) L.length := (R2.ext (fun y => inW_all ws y) (Nat.le_refl _)).cap fun y hy => hL y (of_decide_eq_true hy)
  exact ⟨.ref s.heap.objs.size, L2.upd H s.heap.objs.size (SetX X.prog X.w s.heap.objs.size (fun y => decide (y ∈ ws)) L.length), I.laid (t' := tk) k2 (Nat.le_refl _) (setX_new R3), rfl, q _ (I.hok.fresh (Nat.le_refl _))⟩
end WX
namespace K01
open PySem PySem.Spec PyProof.Rows L2 TL HotExc L2H HotLc Tw WX
/-! ### the parts of a set, by their least places -/
def ltS (a b : Str) : Prop := a.cps.toList < b.cps.toList
instance (a b : Str) : Decidable (ltS a b) := inferInstanceAs (Decidable (a.cps.toList < b.cps.toList))
theorem ltS_of {a b : Str} (h : leS a b = true) (n : a ≠ b) : ltS a b := by
  rcases List.le_iff_lt_or_eq.mp (of_decide_eq_true h) with h | h
  · exact h
  · exact absurd (str_ext h) n
theorem ltS_le {a b : Str} (h : ltS a b) : leS a b = true := decide_eq_true (List.le_of_lt h)
theorem ltS_irr {a : Str} : ¬ ltS a a := fun h => List.lt_irrefl _ h
structure Hds (T : List (Str × Str)) (W ys : List Str) (i : Nat) (zs : List Str) : Prop where
  at_ : ∀ z ∈ zs, z ∈ ys.take i
  cov : ∀ y ∈ ys.take i, ∃ z ∈ zs, Cn T W z y
  asc : zs.Pairwise ltS
  apart : zs.Pairwise fun a b => ¬ Cn T W a b
  least : ∀ z ∈ zs, ∀ x, Cn T W z x → leS z x = true
section
variable {T : List (Str × Str)} {W ys : List Str}
theorem Hds.start : Hds T W ys 0 [] := ⟨fun _ h => (by cases h), fun _ h => (by rw [List.take_zero] at h; cases h), .nil, .nil, fun _ h => (by cases h)⟩
theorem Hds.old {i : Nat} {zs : List Str} {y z : Str} (h : Hds T W ys i zs) (hy : ys[i]? = some y) (hz : z ∈ zs) (hc : Cn T W z y) : Hds T W ys (i + 1) zs := by
  refine ⟨fun u hu => ?_, fun u hu => ?_, h.asc, h.apart, h.least⟩
  · rw [take_snoc hy]
    exact List.mem_append_left _ (h.at_ u hu)
  · rw [take_snoc hy] at hu
    rcases List.mem_append.mp hu with hu | hu
    · exact h.cov u hu
    · rw [List.mem_singleton.mp hu]
      exact ⟨z, hz, hc⟩
theorem Hds.new {i : Nat} {zs : List Str} {y : Str} (h : Hds T W ys i zs) (hs : sortS ys = ys) (nd : ys.Nodup) (hm : ∀ x, x ∈ ys ↔ x ∈ W) (hy : ys[i]? = some y) (hn : ¬ ∃ z ∈ zs, Cn T W z y) : Hds T W ys (i + 1) (zs ++ [y]) := by
  have pw : ys.Pairwise fun a b => leS a b = true := hs ▸ sortS_pw ys
  have hi := lt_of_get hy
  have hyW : y ∈ W := (hm y).mp (List.mem_of_getElem? hy)
  have split : ys = ys.take i ++ y :: ys.drop (i + 1) := by
    have e := List.take_append_drop i ys
    rw [List.drop_eq_getElem_cons hi] at e
    rw [List.getElem?_eq_getElem hi] at hy
    cases hy
    exact e.symm
  have before : ∀ z ∈ ys.take i, leS z y = true ∧ z ≠ y := fun z hz => by
    rw [split] at pw nd
    exact ⟨(List.pairwise_append.mp pw).2.2 z hz y List.mem_cons_self, (List.nodup_append.mp nd).2.2 z hz y List.mem_cons_self⟩
  have after : ∀ x ∈ ys, x ∉ ys.take i → leS y x = true := fun x hx hx' => by
    rw [split] at pw hx
    rcases List.mem_append.mp hx with hx | hx
    · exact absurd hx hx'
    · rcases List.mem_cons.mp hx with rfl | hx
      · exact decide_eq_true (List.le_refl _)
      · exact (List.pairwise_cons.mp (List.pairwise_append.mp pw).2.1).1 x hx
  refine ⟨fun u hu => ?_, fun u hu => ?_, ?_, ?_, fun z hz x hx => ?_⟩
  · rw [take_snoc hy]
    rcases List.mem_append.mp hu with hu | hu
    · exact List.mem_append_left _ (h.at_ u hu)
    · exact List.mem_append_right _ hu
  · rw [take_snoc hy] at hu
    rcases List.mem_append.mp hu with hu | hu
    · obtain ⟨z, hz, hc⟩ := h.cov u hu
      exact ⟨z, List.mem_append_left _ hz, hc⟩
    · rw [List.mem_singleton.mp hu]
      exact ⟨y, List.mem_append_right _ List.mem_cons_self, Cn.refl hyW⟩
  · refine List.pairwise_append.mpr ⟨h.asc, List.pairwise_singleton _ _, fun a ha b hb => ?_⟩
    rw [List.mem_singleton.mp hb]
    obtain ⟨g1, g2⟩ := before a (h.at_ a ha)
    exact ltS_of g1 g2
  · refine List.pairwise_append.mpr ⟨h.apart, List.pairwise_singleton _ _, fun a ha b hb hc => ?_⟩
    rw [List.mem_singleton.mp hb] at hc
    exact hn ⟨a, ha, hc⟩
  · rcases List.mem_append.mp hz with hz | hz
    · exact h.least z hz x hx
    · rw [List.mem_singleton.mp hz] at hx ⊢
      refine after x ((hm x).mpr hx.memR) fun hx' => ?_
      obtain ⟨z, hz, hc⟩ := h.cov x hx'
      exact hn ⟨z, hz, hc.trans hx.symm⟩
/-- zs: the least place of each part of W -/
structure Lst (T : List (Str × Str)) (W zs : List Str) : Prop where
  mem : ∀ z ∈ zs, z ∈ W
  cov : ∀ y ∈ W, ∃ z ∈ zs, Cn T W z y
  asc : zs.Pairwise ltS
  apart : zs.Pairwise fun a b => ¬ Cn T W a b
  least : ∀ z ∈ zs, ∀ x, Cn T W z x → leS z x = true
theorem Hds.lst {zs : List Str} (h : Hds T W ys ys.length zs) (hm : ∀ x, x ∈ ys ↔ x ∈ W) : Lst T W zs := by
  have e : ys.take ys.length = ys := List.take_length
  exact ⟨fun z hz => (hm z).mp (e ▸ h.at_ z hz), fun y hy => h.cov y (by rw [e]; exact (hm y).mpr hy), h.asc, h.apart, h.least⟩
theorem grp_pw {Ps : List Str} {s : Str} (hs : sortS Ps = Ps) : (grp Ps T W s).Pairwise fun a b => leS a b = true := by
  have pw : Ps.Pairwise fun a b => leS a b = true := hs ▸ sortS_pw Ps
  exact pw.sublist List.filter_sublist
theorem grp_nd {Ps : List Str} {s : Str} (nP : Ps.Nodup) : (grp Ps T W s).Nodup := nP.sublist List.filter_sublist
theorem grp_len {Ps : List Str} {s : Str} : (grp Ps T W s).length ≤ Ps.length := List.length_filter_le _ _
theorem grp_head {Ps : List Str} {z : Str} (hs : sortS Ps = Ps) (hW : ∀ y ∈ W, y ∈ Ps) (hz : z ∈ W) (hl : ∀ x, Cn T W z x → leS z x = true) : ∃ t, grp Ps T W z = z :: t := by
  have hm : z ∈ grp Ps T W z := mem_grp.mpr ⟨hW z hz, Cn.refl hz⟩
  have pw := grp_pw (T := T) (W := W) (s := z) hs
  cases e : grp Ps T W z with
  | nil => rw [e] at hm; cases hm
  | cons a t =>
    rw [e] at hm pw
    have ha : a ∈ grp Ps T W z := by rw [e]; exact List.mem_cons_self
    have h1 := hl a (mem_grp.mp ha).2
    rcases List.mem_cons.mp hm with h | h
    · exact ⟨t, by rw [h]⟩
    · rw [leS_anti a z ((List.pairwise_cons.mp pw).1 z h) h1]
      exact ⟨t, rfl⟩
end
/-- rows of lists of texts -/
structure RowsL (H : Hp) (q : Addr) (Ls : List (List Str)) (as : List Addr) : Prop where
  top : H q = some (.lst (as.map V.ref))
  len : as.length = Ls.length
  row : ∀ (i : Nat) (a : Addr) (l : List Str), as[i]? = some a → Ls[i]? = some l → H a = some (.lst (l.map V.str))
  nd : as.Nodup
  no : q ∉ as
end K01
namespace K01
open PySem PySem.Spec PyProof.Rows L2 TL HotExc L2H HotLc Tw WX
local macro_rules | `(tactic| walk_at "rd") => `(tactic| simp only [start1, tMethP, tG1, rSetOfS, tDisp, tPairs, rSInK, tAug, ipI, rSortedDS, rInD, rSetXc, rSortedX, tUpd, wipe, isR, isBool, isInt, isStr, isLst, isTup, tAsg, gName, gSub, tVar, tC, tOp, tUn, tTest, tIfS, tRet, tRetN, tDrop, tB, tAnd, tOr, tNot, tAndV, tOrV, tNotV, tIf, tCB, tCons, tNil, tNext, tCall, tBM, tTup, tLst, rU, rInW, rNinW, Int.reduceNeg, tG, tG2, sP, tFldC, sFldC, tProp, tMeth, tMake, rOwnC, rLenO, rIsC, rNoT, tAddT, tSAddK, rSAddK, rSInK, rSet0K, rSet0T, rMinS, rMaxS, rSortedQ, rSortedT, rEqD, rNeD, rIxD, dcL_eq, dcZ_eq, lcO_eq, forE_eq, forT_eq, lcS_eq, ItX.rIterN, iOwn, List.append_nil, tDisp, tPairs, tCallS, tCallSD, tCallT, StX.tStar, tCallK, tCallKS, rTupOf, tDrop, rI0, rI, rEq, rNe, scal, forR_eq, forR2_eq, forS_eq, forL_eq, lcT_eq, lcRT_eq, lcS_eq, rLenX, rLenS, rListOf, tRevL, rMulS, rRepL, rCatL, rSumN, rMaxN, tBM0, rPop, tAug, ipI,  tPart, tNoPart, CwR.tReplC, rAllK, rInSg, rNinSg, sgn_inj, rAddS, rInSt, tChain, tM1, tM0, rSplitN, rJoinN, exists_eq, rIntI, rIntB, rIntS, rStrI, rAbs, rOrd, rMin, rMax, rIxL, rIxX, rSetL, rAppend, rIxS, rSlS, rSlL, tSl, List.map_cons, List.map_nil, List.replicate_succ, List.replicate_zero, List.length_cons, List.length_nil, Nat.reduceSub, Nat.reduceAdd, Nat.zero_add, Nat.sub_self, List.getElem?_cons_zero, List.getElem?_cons_succ, List.set_cons_zero, List.set_cons_succ, List.append_nil, List.nil_append, List.cons_append, Option.some.injEq, not_true_eq_false, reduceCtorEq, exists_eq_left', exists_eq_left, exists_eq', exists_and_left, exists_and_right, V.int.injEq, V.str.injEq, V.bl.injEq, V.ref.injEq, List.cons.injEq, and_true, true_and, and_assoc, decide_eq_true_eq, Bool.not_eq_true', decide_eq_false_iff_not, ite_true, ite_false, if_true, if_false, Bool.not_true, Bool.not_false, Bool.false_eq_true, eq_self_iff_true, reduceIte, ne_eq, Int.reduceEq, not_false_eq_true])
local macro_rules | `(tactic| walk_at "rt") => `(tactic| try walk_at "rd")
local macro_rules | `(tactic| walk_at "st") => `(tactic| (walk_at "rt"; refine r_seq ?_; walk_at "rt"))
local macro_rules | `(tactic| walk_at "hp") => `(tactic| first | assumption | exact upd_same | (rw [upd_ne (by assumption)]; walk_at "hp"))
local macro_rules | `(tactic| walk_at "ex1") => `(tactic| ((with_reducible refine Exists.intro ?w (And.intro ?hx ?_)); (case hx => first | exact sq_of (by walk_at "hp") | exact .inl (sq_of (by walk_at "hp")) | exact rfl | (show _ = some (HO.lst _); walk_at "hp"))))
local macro_rules | `(tactic| walk_at "ex") => `(tactic| repeat (first | walk_at "ex1" | walk_at "rd"))
abbrev s_mWeb_parts : Stmt := clsS 34 6
theorem sc_mWeb_parts : FnScope ["self", "within", "found", "seen", "place", "steps"] ["self", "within"] (defScope s_mWeb_parts) := ⟨rfl, rfl, rfl, by decide +kernel, rfl, by decide +kernel, by decide +kernel⟩
abbrev s_mWeb_pieces : Stmt := clsS 34 9
theorem sc_mWeb_pieces : FnScope ["self"] ["self"] (defScope s_mWeb_pieces) := ⟨rfl, rfl, rfl, by decide +kernel, rfl, by decide +kernel, by decide +kernel⟩
abbrev s_mWeb_lone : Stmt := clsS 34 10
theorem sc_mWeb_lone : FnScope ["self", "place"] ["self"] (defScope s_mWeb_lone) := ⟨rfl, rfl, rfl, by decide +kernel, rfl, by decide +kernel, by decide +kernel⟩
def spParts (C CN : Addr) : Sp := fun vs H Q E => ∃ (x p : Addr) (Ps : List Str) (T : List (Str × Str)) (W : List Str), vs = [.ref x, .ref p] ∧ IsWeb C H x Ps T ∧ sortS Ps = Ps ∧ Ps.Nodup ∧ Ps.length ≤ 20 ∧ T.length ≤ 60 ∧ H p = some (.lst (W.map V.str)) ∧ W.length ≤ 100 ∧
  (oddIn Ps W = none → ∀ q zs as H', Keeps H H' → H q = none → (∀ a ∈ as, H a = none) → Lst T W zs → RowsL H' q (zs.map (grp Ps T W)) as → Q (.ref q) H') ∧ (∀ y, oddIn Ps W = some y → NoPl CN y H E)
theorem RowsL.keep {H H' : Hp} {q : Addr} {Ls : List (List Str)} {as : List Addr} (h : RowsL H q Ls as) (k : Keeps H H') : RowsL H' q Ls as := ⟨k _ _ h.top, h.len, fun i a l h1 h2 => k _ _ (h.row i a l h1 h2), h.nd, h.no⟩
theorem RowsL.snoc {H : Hp} {q a : Addr} {Ls : List (List Str)} {as : List Addr} {l : List Str} (h : RowsL H q Ls as) (na : H a = none) (hq : q ≠ a) : RowsL (L2.upd (L2.upd H a (.lst (l.map V.str))) q (.lst ((as ++ [a]).map V.ref))) q (Ls ++ [l]) (as ++ [a]) := by
  have inH : ∀ b ∈ as, b ≠ a := fun b hb e => by
    obtain ⟨i, hi, e2⟩ := List.getElem_of_mem hb
    have h1 := List.getElem?_eq_getElem hi
    have h2 : i < Ls.length := h.len ▸ hi
    have := h.row i _ _ h1 (List.getElem?_eq_getElem h2)
    rw [e2, e, na] at this
    cases this
  refine ⟨upd_same, by rw [List.length_append, List.length_append, h.len]; rfl, fun i b m h1 h2 => ?_, ?_, ?_⟩
  · rw [List.getElem?_append] at h1 h2
    by_cases hi : i < as.length
    · rw [if_pos hi] at h1
      rw [if_pos (h.len ▸ hi)] at h2
      have hb := List.mem_of_getElem? h1
      rw [upd_ne (fun e => h.no (by rw [← e]; exact hb)), upd_ne (inH b hb)]
      exact h.row i b m h1 h2
    · rw [if_neg hi] at h1
      rw [if_neg (h.len ▸ hi)] at h2
      obtain rfl : b = a := by
        have := List.mem_of_getElem? h1
        exact List.mem_singleton.mp this
      obtain rfl : m = l := List.mem_singleton.mp (List.mem_of_getElem? h2)
      rw [upd_ne (Ne.symm hq)]
      exact upd_same
  · refine List.nodup_append.mpr ⟨h.nd, by simp, fun b hb c hc => ?_⟩
    rw [List.mem_singleton.mp hc]
    exact inH b hb
  · intro hm
    rcases List.mem_append.mp hm with hm | hm
    · exact h.no hm
    · exact hq (List.mem_singleton.mp hm)
section
variable {P : Program} {w : World} {K : PySem.W.Frag} {mg : Str → Option Value} {base : Heap}
theorem ok_parts {c_Web CN f f_checkall f_stepsfrom : Addr} {fd fd_checkall fd_stepsfrom : FuncData} (B : Bi mg) (B_set : mg "set" = none) (B_sorted : mg "sorted" = none) (F : Fun K "parts" "Web.parts" s_mWeb_parts f fd) (CL_Web : Cls K c_Web)
    (ME_mWeb_checkall : Meth K c_Web "_check_all" f_checkall) (B_mWeb_checkall : Binds K fd_checkall ["self", "within"] []) (ME_mWeb_stepsfrom : Meth K c_Web "_steps_from" f_stepsfrom) (B_mWeb_stepsfrom : Binds K fd_stepsfrom ["self", "start", "within"] [])
    (G_mWeb_checkall : FnOk P w K mg base (L2N.CX P w) 4 f_checkall fd_checkall ["self", "within"] (spCkAll c_Web CN)) (G_mWeb_stepsfrom : FnOk P w K mg base CX0 2 f_stepsfrom fd_stepsfrom ["self", "start", "within"] (spStF c_Web)) :
    FnOk P w K mg base (L2N.CX P w) 5 f fd ["self", "within"] (spParts c_Web CN) := by
  refine okN F sc_mWeb_parts (fun vs H Q E h => ?_) (fun cdv A outer s H vs Q E hr h => ?_)
  · obtain ⟨x, p, Ps, T, W, rfl, _⟩ := h
    rfl
  · obtain ⟨x, p, Ps, T, W, rfl, hw, hs, hnd, h20, h60, hp, few, h1, h2⟩ := h
    refine ⟨_, (pss_cons (ps_expr (pe_methP (pv 0) CL_Web ME_mWeb_checkall G_mWeb_checkall (hr.mono (by omega)) B_mWeb_checkall (fun σ => L2N.passAt (L2N.takes_of rfl rfl rfl rfl) σ) (pa_cons (pv 1) pa_nil)))
      (pss_cons (ps_set (i := 2) sc_mWeb_parts.nd rfl (.inl rfl) (pe_lst pa_nil))
      (pss_cons (ps_set (i := 3) sc_mWeb_parts.nd rfl (.inl rfl) pe_dnewK)
      (pss_cons (ps_for PassesOwn.leaving rfl (pi_listK (K := K) (pe_callB (cr_sortedX (P := P) (w := w) (by rfl)) (by rfl) B_sorted (by decide +kernel) (pa_cons (pe_callTy (cr_setXc (K := K) (P := P) (w := w) (by rfl)) (by rfl) B_set (by decide +kernel) (pa_cons (pv 1) pa_nil)) pa_nil))) (pg_name (i := 4) sc_mWeb_parts.nd rfl (.inl rfl)) (pss_one (ps_if (pt_cmp (pc_dnotin (hu_of hr) (pv 4) (pv 3))) (pss_cons (ps_set (i := 5) sc_mWeb_parts.nd rfl (.inl rfl) (pe_meth (pv 0) CL_Web ME_mWeb_stepsfrom G_mWeb_stepsfrom (hr.mono (by omega)) B_mWeb_stepsfrom .nil pass0 (pa_cons (pv 4) (pa_cons (pv 1) pa_nil))))
      (pss_cons (ps_expr (pe_upd (pv 3) (pv 5) ⟨rfl, rfl, rfl, rfl⟩))
      (pss_one (ps_expr (pe_bm PySem.F.plainAttrs_list PySem.F.slot_list_append PySem.F.type_list_append mt_append (pv 2) (pa_cons (pe_callB (call_sortedDS (by rfl)) (by rfl) B_sorted (by decide +kernel) (pa_cons (pv 5) pa_nil)) pa_nil)))))) pss_nil)))
      (pss_one (ps_ret (pv 2))))))), ?_⟩
    have hw2 := hw
    obtain ⟨pl, tl, nd, dx, vs, WA⟩ := hw2
    walk_at "st"
    refine ⟨dx, _, WA.ob, webF_no _ _ _ (by decide +kernel) (by decide +kernel) (by decide +kernel), x, p, Ps, T, W, rfl, hw, hp, fun ho => ?_, fun y hy => h2 y hy⟩
    have hin := odd_none ho
    walk_at "st"
    refine ⟨Nat.zero_le _, fun q nq => ?_⟩
    have k0 : Keeps H (L2.upd H q (.lst [])) := Keeps.new nq
    have hq0 : L2.upd H q (.lst []) q = some (.lst []) := upd_same
    generalize L2.upd H q (.lst []) = H0 at *
    walk_at "st"
    intro sd nsd
    have nsd0 := k0.free nsd
    have k1 : Keeps H (L2.upd H0 sd (.dK [])) := k0.put nsd0
    have nqd : q ≠ sd := ne_of_none hq0 nsd
    have hq1 : L2.upd H0 sd (.dK []) q = some (.lst []) := (upd_ne nqd).trans hq0
    have hd1 : L2.upd H0 sd (.dK []) sd = some (.dK []) := upd_same
    generalize L2.upd H0 sd (.dK []) = H1 at *
    walk_at "st"
    refine ⟨W, sq_of (k1 _ _ hp), few, Ps, hin, fun sx nsx => ?_⟩
    have nsx0 := k1.free nsx
    have k2 : Keeps H (L2.upd H1 sx (SetX P w sx (fun y => decide (y ∈ W)) Ps.length)) := k1.put nsx0
    have hq2 := (upd_ne (o := SetX P w sx (fun y => decide (y ∈ W)) Ps.length) (ne_of_none hq1 nsx)).trans hq1
    have hd2 := (upd_ne (o := SetX P w sx (fun y => decide (y ∈ W)) Ps.length) (ne_of_none hd1 nsx)).trans hd1
    have hx2 : L2.upd H1 sx (SetX P w sx (fun y => decide (y ∈ W)) Ps.length) sx = some (SetX P w sx (fun y => decide (y ∈ W)) Ps.length) := upd_same
    generalize L2.upd H1 sx (SetX P w sx (fun y => decide (y ∈ W)) Ps.length) = H2 at *
    refine ⟨_, _, hx2, by omega, fun l0 ys hys ndy hmy hly nl0 => ?_⟩
    have hmy : ∀ x, x ∈ ys ↔ x ∈ W := fun x => (hmy x).trans ⟨of_decide_eq_true, decide_eq_true⟩
    have nl00 := k2.free nl0
    have k3 : Keeps H (L2.upd H2 l0 (.lst (ys.map V.str))) := k2.put nl00
    have hq3 := (upd_ne (o := .lst (ys.map V.str)) (ne_of_none hq2 nl0)).trans hq2
    have hd3 := (upd_ne (o := .lst (ys.map V.str)) (ne_of_none hd2 nl0)).trans hd2
    have hl3 : L2.upd H2 l0 (.lst (ys.map V.str)) l0 = some (.lst (ys.map V.str)) := upd_same
    have ql : q ≠ l0 := ne_of_none hq2 nl0
    have dl : sd ≠ l0 := ne_of_none hd2 nl0
    generalize L2.upd H2 l0 (.lst (ys.map V.str)) = H3 at *
    refine ⟨⟨_, sq_of hl3⟩, ?_⟩
    refine r_list (ys.map V.str) (fun i σ H' => ∃ (zs : List Str) (as : List Addr) (kvs : List (Key × V)) (x4 x5 : Option V), σ = [some (.ref x), some (.ref p), some (.ref q), some (.ref sd), x4, x5] ∧ Keeps H H' ∧ H' l0 = some (.lst (ys.map V.str)) ∧ H' sd = some (.dK kvs) ∧ RowsL H' q (zs.map (grp Ps T W)) as ∧ (∀ a ∈ as, H a = none) ∧ kvs.length ≤ 20 * i ∧ zs.length ≤ i ∧
        (∀ y, (valV kvs (Sum.inr y)).isSome = true ↔ ∃ z ∈ zs, Cn T W z y) ∧ Hds T W ys i zs)
      ⟨[], [], [], _, _, rfl, k3, hl3, hd3, ⟨hq3, rfl, fun i a l h => (by simp at h), .nil, by simp⟩, by simp, Nat.zero_le _, Nat.zero_le _, fun y => ⟨fun h => (by cases h), fun ⟨z, hz, _⟩ => (by cases hz)⟩, Hds.start⟩ (fun i σ H' _ h => by obtain ⟨_, _, _, _, _, _, _, h, _⟩ := h; exact sq_of h) ?_ ?_
    · rintro i v σ H4 hv ⟨zs, as, kvs, x4, x5, rfl, k4, hl4, hd4, hR, hna, hkl, hzl, hS, hD⟩ N kN
      obtain ⟨y, hy, rfl⟩ := get_map hv
      have hiy := lt_of_get hy
      have hyW : y ∈ W := (hmy y).mp (List.mem_of_getElem? hy)
      unfold tDNotIn
      walk_at "rt"
      refine ⟨_, DGet.k (k := Sum.inr y) hd4, ite2 (fun hns => ?_) (fun hse => ?_)⟩
      · have hnz : ¬ ∃ z ∈ zs, Cn T W z y := fun g => by rw [(hS y).mpr g] at hns; cases hns
        walk_at "st"
        refine ⟨dx, _, k4 _ _ WA.ob, webF_no _ _ _ (by decide +kernel) (by decide +kernel) (by decide +kernel), x, p, Ps, T, W, y, rfl, hw.keep k4, h60, k4 _ _ hp, few, hin, fun r kvs2 d ks H5 k5 nr hr5 hT hE hk nk hm => ?_⟩
        have hm2 : ∀ z, z ∈ ks ↔ Cn T W y z := fun z => (hm z).trans (hE.cn z)
        have lks : ks.length ≤ 20 := Nat.le_trans (nd_len ks Ps nk fun z hz => hin z ((hm2 z).mp hz).memR) h20
        have lkv : kvs2.length = ks.length := by have := congrArg List.length hk; rwa [List.length_map, List.length_map] at this
        have hd5 := k5 _ _ hd4
        have nrd : r ≠ sd := fun e => by rw [e, hd4] at nr; cases nr
        walk_at "st"
        have k45 := k4.trans k5
        have hR5 := hR.keep k5
        have k6 : Keeps H (L2.upd H5 sd (.dK (mergeK kvs kvs2))) := k45.put nsd0
        have kl := length_mergeK kvs2 kvs
        refine ⟨kvs, hd5, nrd, hd5, kvs2, hr5, Nat.le_of_lt (size_ok (n := kvs.length + kvs2.length) (by omega)), .inl ⟨rfl, _, sq_of ((upd_ne nqd).trans hR5.top)⟩, kvs2, (upd_ne nrd).trans hr5, ks, hk, by omega, fun p1 np1 => ?_⟩
        have hq6 : L2.upd H5 sd (.dK (mergeK kvs kvs2)) q = some (.lst (as.map V.ref)) := (upd_ne nqd).trans hR5.top
        have hd6 : L2.upd H5 sd (.dK (mergeK kvs kvs2)) sd = some (.dK (mergeK kvs kvs2)) := upd_same
        have hl6 : L2.upd H5 sd (.dK (mergeK kvs kvs2)) l0 = some (.lst (ys.map V.str)) := (upd_ne (Ne.symm dl)).trans (k5 _ _ hl4)
        have inD : ∀ a ∈ as, a ≠ sd := fun a ha e => by
          obtain ⟨j, hj, e2⟩ := List.getElem_of_mem ha
          have g := hR5.row j _ _ (List.getElem?_eq_getElem hj) (List.getElem?_eq_getElem (hR5.len ▸ hj))
          rw [e2, e, hd5] at g
          cases g
        have hR6 : RowsL (L2.upd H5 sd (.dK (mergeK kvs kvs2))) q (zs.map (grp Ps T W)) as := ⟨hq6, hR5.len, fun j a l g1 g2 => (upd_ne (inD a (List.mem_of_getElem? g1))).trans (hR5.row j a l g1 g2), hR5.nd, hR5.no⟩
        have hS6 : ∀ u, (valV (mergeK kvs kvs2) (Sum.inr u)).isSome = true ↔ ∃ z ∈ zs ++ [y], Cn T W z u := fun u => by
          rw [val_merge, Bool.or_eq_true, hS u]
          have e : (kvs2.any fun p => decide (p.1 = Sum.inr u)) = true ↔ Cn T W y u := by
            rw [← hm2 u, List.any_eq_true]
            have mk : (Sum.inr u : Key) ∈ kvs2.map (·.1) ↔ u ∈ ks := by
              rw [hk, List.mem_map]
              exact ⟨fun ⟨v, g, e⟩ => (Sum.inr.inj e) ▸ g, fun g => ⟨u, g, rfl⟩⟩
            rw [← mk, List.mem_map]
            exact ⟨fun ⟨v, g, e⟩ => ⟨v, g, of_decide_eq_true e⟩, fun ⟨v, g, e⟩ => ⟨v, g, decide_eq_true e⟩⟩
          rw [e]
          constructor
          · rintro (⟨z, g, c⟩ | c)
            · exact ⟨z, List.mem_append_left _ g, c⟩
            · exact ⟨y, List.mem_append_right _ List.mem_cons_self, c⟩
          · rintro ⟨z, g, c⟩
            rcases List.mem_append.mp g with g | g
            · exact .inl ⟨z, g, c⟩
            · rw [List.mem_singleton.mp g] at c
              exact .inr c
        generalize L2.upd H5 sd (.dK (mergeK kvs kvs2)) = H6 at *
        have qp : q ≠ p1 := ne_of_none hq6 np1
        have dp : sd ≠ p1 := ne_of_none hd6 np1
        have lp : l0 ≠ p1 := ne_of_none hl6 np1
        have np0 := k6.free np1
        refine ⟨as.map V.ref, (upd_ne qp).trans hq6, size_ok (by rw [List.length_map, hR6.len, List.length_map]; omega), kN _ _ ⟨zs ++ [y], as ++ [p1], mergeK kvs kvs2, _, _, rfl, (k6.put np0).put nq, ?_, ?_, ?_, ?_, by omega, by rw [List.length_append, List.length_singleton]; omega, hS6, hD.new hys ndy hmy hy hnz⟩⟩
        · exact (upd_ne (Ne.symm ql)).trans ((upd_ne lp).trans hl6)
        · exact (upd_ne (Ne.symm nqd)).trans ((upd_ne dp).trans hd6)
        · have g := hR6.snoc (l := grp Ps T W y) np1 qp
          rw [grp_sorted hs hnd nk hin hm2, List.map_append]
          rw [List.map_append] at g
          exact g
        · intro a ha
          rcases List.mem_append.mp ha with ha | ha
          · exact hna a ha
          · rw [List.mem_singleton.mp ha]
            exact np0
      · obtain ⟨z, hz, hc⟩ := (hS y).mp (by cases e : (valV kvs (Sum.inr y)).isSome with | true => rfl | false => exact absurd e hse)
        exact kN _ _ ⟨zs, as, kvs, _, _, rfl, k4, hl4, hd4, hR, hna, by omega, by omega, hS, hD.old hy hz hc⟩
    · rintro σ H4 ⟨zs, as, kvs, x4, x5, rfl, k4, hl4, hd4, hR, hna, hkl, hzl, hS, hD⟩
      rw [List.length_map] at hD
      walk_at "rt"
      exact h1 ho q zs as H4 k4 nq hna (hD.lst hmy) hR
def spPieces (C : Addr) : Sp := fun vs H Q _ => ∃ (x : Addr) (Ps : List Str) (T : List (Str × Str)), vs = [.ref x] ∧ IsWeb C H x Ps T ∧ sortS Ps = Ps ∧ Ps.Nodup ∧ Ps.length ≤ 20 ∧ T.length ≤ 60 ∧
  ∀ q zs as H', Keeps H H' → H q = none → (∀ a ∈ as, H a = none) → Lst T Ps zs → RowsL H' q (zs.map (grp Ps T Ps)) as → Q (.ref q) H'
theorem odd_self (Ps : List Str) : oddIn Ps Ps = none := List.find?_eq_none.mpr fun x hx => by simpa using hx
theorem ok_pieces {c_Web CN f f_parts : Addr} {fd fd_parts : FuncData} (F : Fun K "pieces" "Web.pieces" s_mWeb_pieces f fd) (CL_Web : Cls K c_Web) (NA_Web_places : NoAttr K c_Web "_places") (ME_mWeb_parts : Meth K c_Web "parts" f_parts) (B_mWeb_parts : Binds K fd_parts ["self", "within"] [])
    (G_mWeb_parts : FnOk P w K mg base (L2N.CX P w) 5 f_parts fd_parts ["self", "within"] (spParts c_Web CN)) : FnOk P w K mg base CX0 6 f fd ["self"] (spPieces c_Web) := by
  refine F.ok sc_mWeb_pieces (fun vs H Q E h => ?_) (fun cdv A outer s H vs Q E hr h => ?_)
  · obtain ⟨x, Ps, T, rfl, _⟩ := h
    rfl
  · obtain ⟨x, Ps, T, rfl, hw, hs, hnd, h20, h60, q⟩ := h
    refine ⟨_, (pss_one (ps_ret (pe_methP (pv 0) CL_Web ME_mWeb_parts G_mWeb_parts (hr.mono (by omega)) B_mWeb_parts passS0 (pa_cons (pe_fldC CL_Web NA_Web_places (pv 0) (by rfl)) pa_nil)))), ?_⟩
    have hw2 := hw
    obtain ⟨pl, tl, nd, dx, vs, WA⟩ := hw2
    walk_at "rt"
    exact ⟨dx, _, WA.ob, webF_no _ _ _ (by decide +kernel) (by decide +kernel) (by decide +kernel), dx, _, WA.ob, _, webF_places _ _ _, x, pl, Ps, T, Ps, rfl, hw, hs, hnd, h20, h60, WA.pl_, by omega, fun _ => q, fun y hy => by rw [odd_self] at hy; cases hy⟩
/-- the places without a tie -/
def lonely (Ps : List Str) (T : List (Str × Str)) : List Str := Ps.filter fun z => decide (nears T z = [])
def spLone (C : Addr) : Sp := fun vs H Q _ => ∃ (x : Addr) (Ps : List Str) (T : List (Str × Str)), vs = [.ref x] ∧ IsWeb C H x Ps T ∧ Ps.length ≤ 20 ∧ ∀ q H', Keeps H H' → H q = none → H' q = some (.lst ((lonely Ps T).map V.str)) → Q (.ref q) H'
theorem ok_lone {c_Web f : Addr} {fd : FuncData} (B : Bi mg) (F : Fun K "lone" "Web.lone" s_mWeb_lone f fd) (CL_Web : Cls K c_Web) (NA_Web_places : NoAttr K c_Web "_places") (NA_Web_near : NoAttr K c_Web "_near") : FnOk P w K mg base CX0 1 f fd ["self"] (spLone c_Web) := by
  refine F.ok sc_mWeb_lone (fun vs H Q E h => ?_) (fun cdv A outer s H vs Q E hr h => ?_)
  · obtain ⟨x, Ps, T, rfl, _⟩ := h
    rfl
  · obtain ⟨x, Ps, T, rfl, hw, h20, q⟩ := h
    refine ⟨_, (pss_one (ps_ret (pe_lc (own := [("place", 1)]) (g := gName 1) (by rfl) sc_mWeb_lone.nd (pi_listK (K := K) (pe_fldC CL_Web NA_Web_places (pv 0) (by rfl))) (blkOk_by (own := [("place", 1)]) (N := ["self", "place"]) (sc := defScope s_mWeb_lone) (by decide +kernel)) (fun _ _ _ _ _ => pg_name (i := 1) sc_mWeb_lone.nd rfl (Or.inl rfl)) (fun _ _ _ _ _ => (pts_one (pt_cmpR op_eq (pe_callB (call_lenXK (K := K)) (by rfl) B.len PySem.boot_len (pa_cons (pe_gS (hu_of hr) (pe_fldC CL_Web NA_Web_near (pv 0) (by rfl)) (pv 1) (fun _ _ => rfl)) pa_nil)) pe_int (nomark _)))) (fun _ _ _ _ _ => (pv 1))))), ?_⟩
    have hw2 := hw
    obtain ⟨pl, tl, nd, dx, vs, WA⟩ := hw2
    obtain ⟨kvs, hn, _, hnl⟩ := near_has WA.nr
    walk_at "rt"
    refine ⟨dx, _, WA.ob, _, webF_places _ _ _, pl, rfl, ⟨_, sq_of WA.pl_⟩, fun Dd nD => ?_⟩
    refine r_lcT (Ps.map V.str) (fun i H' => Keeps H H' ∧ H' Dd = some (.lst ((lonely (Ps.take i) T).map V.str))) (fun _ => rfl) ⟨Keeps.new nD, upd_same⟩ (fun i H' _ h => sq_of (h.1 _ _ WA.pl_)) ?_ ?_
    · rintro i v H' hx ⟨k, hD⟩ N M kN kM
      obtain ⟨z, h1, rfl⟩ := get_map hx
      have hi := lt_of_get h1
      have fs := filter_snoc (p := fun z => decide (nears T z = [])) h1
      have bl : (lonely (Ps.take i) T).length ≤ 20 := by
        refine Nat.le_trans (List.length_filter_le _ _) ?_
        rw [List.length_take]
        omega
      obtain ⟨l, hv, hl⟩ := hnl z (List.mem_of_getElem? h1)
      have e0 : (((sortS (nears T z)).map V.str).length : Int) = 0 ↔ nears T z = [] := by
        rw [List.length_map, (sortS_pm _).length_eq]
        exact ⟨fun h => List.length_eq_zero_iff.mp (by omega), fun h => by rw [h]; rfl⟩
      walk_at "rt"
      refine ⟨dx, _, k _ _ WA.ob, _, webF_near _ _ _, _, rfl, kvs, k _ _ hn, _, hv, l, rfl, _, .inl (sq_of (k _ _ hl)), ite2 (fun h => ?_) (fun h => ?_)⟩
      · refine kN _ H' _ hD (size_ok (by rw [List.length_map]; omega)) ⟨k.put nD, ?_⟩
        rw [upd_same]
        unfold lonely
        rw [fs, if_pos (decide_eq_true (e0.mp (by simpa using h))), List.map_append]
        rfl
      · refine kM H' ⟨k, ?_⟩
        unfold lonely
        rw [fs, if_neg (fun g => h (by simpa using e0.mpr (of_decide_eq_true g))), List.append_nil]
        exact hD
    · rintro H' ⟨k, hD⟩
      rw [List.length_map, List.take_length] at hD
      exact q Dd H' k nD hD
end
end K01
namespace K01
open PySem PySem.Spec PyProof.Rows L2 TL HotExc L2H HotLc Tw WX
local macro_rules | `(tactic| walk_at "rd") => `(tactic| simp only [start1, tMethP, tG1, rSetOfS, tDisp, tPairs, rSInK, tAug, ipI, rSortedDS, rInD, rSetXc, rSortedX, tUpd, wipe, isR, isBool, isInt, isStr, isLst, isTup, tAsg, gName, gSub, tVar, tC, tOp, tUn, tTest, tIfS, tRet, tRetN, tDrop, tB, tAnd, tOr, tNot, tAndV, tOrV, tNotV, tIf, tCB, tCons, tNil, tNext, tCall, tBM, tTup, tLst, rU, rInW, rNinW, Int.reduceNeg, tG, tG2, sP, tFldC, sFldC, tProp, tMeth, tMake, rOwnC, rLenO, rIsC, rNoT, tAddT, tSAddK, rSAddK, rSInK, rSet0K, rSet0T, rMinS, rMaxS, rSortedQ, rSortedT, rEqD, rNeD, rIxD, dcL_eq, dcZ_eq, lcO_eq, forE_eq, forT_eq, lcS_eq, ItX.rIterN, iOwn, List.append_nil, tDisp, tPairs, tCallS, tCallSD, tCallT, StX.tStar, tCallK, tCallKS, rTupOf, tDrop, rI0, rI, rEq, rNe, scal, forR_eq, forR2_eq, forS_eq, forL_eq, lcT_eq, lcRT_eq, lcS_eq, rLenX, rLenS, rListOf, tRevL, rMulS, rRepL, rCatL, rSumN, rMaxN, tBM0, rPop, tAug, ipI,  tPart, tNoPart, CwR.tReplC, rAllK, rInSg, rNinSg, sgn_inj, rAddS, rInSt, tChain, tM1, tM0, rSplitN, rJoinN, exists_eq, rIntI, rIntB, rIntS, rStrI, rAbs, rOrd, rMin, rMax, rIxL, rIxX, rSetL, rAppend, rIxS, rSlS, rSlL, tSl, List.map_cons, List.map_nil, List.replicate_succ, List.replicate_zero, List.length_cons, List.length_nil, Nat.reduceSub, Nat.reduceAdd, Nat.zero_add, Nat.sub_self, List.getElem?_cons_zero, List.getElem?_cons_succ, List.set_cons_zero, List.set_cons_succ, List.append_nil, List.nil_append, List.cons_append, Option.some.injEq, not_true_eq_false, reduceCtorEq, exists_eq_left', exists_eq_left, exists_eq', exists_and_left, exists_and_right, V.int.injEq, V.str.injEq, V.bl.injEq, V.ref.injEq, List.cons.injEq, and_true, true_and, and_assoc, decide_eq_true_eq, Bool.not_eq_true', decide_eq_false_iff_not, ite_true, ite_false, if_true, if_false, Bool.not_true, Bool.not_false, Bool.false_eq_true, eq_self_iff_true, reduceIte, ne_eq, Int.reduceEq, not_false_eq_true])
local macro_rules | `(tactic| walk_at "rt") => `(tactic| try walk_at "rd")
local macro_rules | `(tactic| walk_at "st") => `(tactic| (walk_at "rt"; refine r_seq ?_; walk_at "rt"))
local macro_rules | `(tactic| walk_at "hp") => `(tactic| first | assumption | exact upd_same | (rw [upd_ne (by assumption)]; walk_at "hp"))
local macro_rules | `(tactic| walk_at "ex1") => `(tactic| ((with_reducible refine Exists.intro ?w (And.intro ?hx ?_)); (case hx => first | exact sq_of (by walk_at "hp") | exact .inl (sq_of (by walk_at "hp")) | exact rfl | (show _ = some (HO.lst _); walk_at "hp"))))
local macro_rules | `(tactic| walk_at "ex") => `(tactic| repeat (first | walk_at "ex1" | walk_at "rd"))
abbrev s_mWeb_border : Stmt := clsS 34 7
theorem sc_mWeb_border : FnScope ["self", "within", "inside", "place", "beside"] ["self", "within"] (defScope s_mWeb_border) := ⟨rfl, rfl, rfl, by decide +kernel, rfl, by decide +kernel, by decide +kernel⟩
def spBord (C CN : Addr) : Sp := fun vs H Q E => ∃ (x p : Addr) (Ps : List Str) (T : List (Str × Str)) (W : List Str), vs = [.ref x, .ref p] ∧ IsWeb C H x Ps T ∧ sortS Ps = Ps ∧ Ps.Nodup ∧ Ps.length ≤ 20 ∧ T.length ≤ 60 ∧ (∀ e ∈ T, e.1 ∈ Ps ∧ e.2 ∈ Ps) ∧ H p = some (.lst (W.map V.str)) ∧ W.length ≤ 100 ∧
  (oddIn Ps W = none → ∀ q H', Keeps H H' → H q = none → H' q = some (.lst ((bord Ps T W).map V.str)) → Q (.ref q) H') ∧ (∀ y, oddIn Ps W = some y → NoPl CN y H E)
theorem sc_list {K : PySem.W.Frag} {a : Addr} (xs : List V) {g : TG} {tt : TT} {tb : L2.St → Hp → (Hp → Prop) → Prop} {vs : List Nat} {σ : L2.St} {Hs : Hp} {Qd : Hp → Prop} (Pv : Nat → Hp → Prop) (h0 : Pv 0 Hs) (hl : ∀ i H, Pv i H → SqL K H a xs)
    (hs : ∀ i x H, xs[i]? = some x → Pv i H → g x (wipe σ vs) H fun σ2 H2 => wipe σ2 vs = wipe σ vs ∧ tt σ2 H2 fun b H3 => if b = true then tb σ2 H3 (Pv (i + 1)) else Pv (i + 1) H3) (hd : ∀ H, Pv xs.length H → Qd H) :
    ∃ W : Nat → Nat → Hp → Prop, (∃ m, W 0 m Hs) ∧ ∀ i m H, W i m H → ((Itl K a).stop i H ∧ Qd H) ∨ ((Itl K a).go i H ∧ ∃ Nx : Hp → Prop, (∀ H', Nx H' → ∃ m', m' < m ∧ W (i + 1) m' H') ∧ ∀ x H', (Itl K a).yld i H x H' → g x (wipe σ vs) H' fun σ2 H2 => wipe σ2 vs = wipe σ vs ∧ tt σ2 H2 fun b H3 => if b = true then tb σ2 H3 Nx else Nx H3) := by
  refine ⟨fun i m H => m + i = xs.length ∧ Pv i H, ⟨xs.length, rfl, h0⟩, ?_⟩
  rintro i m H ⟨e, p⟩
  have q := hl i H p
  rcases Nat.eq_zero_or_pos m with z | z
  · subst z
    rw [Nat.zero_add] at e
    subst e
    exact .inl ⟨⟨xs, q, Nat.le_refl _⟩, hd H p⟩
  · have hi : i < xs.length := by omega
    refine .inr ⟨⟨xs, xs[i], q, List.getElem?_eq_getElem hi⟩, Pv (i + 1), fun H' p' => ⟨m - 1, by omega, by omega, p'⟩, fun x H' y => ?_⟩
    obtain ⟨eH, y⟩ := y
    subst eH
    exact hs i x _ (y xs q) p
section
variable {P : Program} {w : World} {K : PySem.W.Frag} {mg : Str → Option Value} {base : Heap}
theorem ok_wborder {c_Web CN f f_checkall : Addr} {fd fd_checkall : FuncData} (B : Bi mg) (B_set : mg "set" = none) (B_sorted : mg "sorted" = none) (F : Fun K "border" "Web.border" s_mWeb_border f fd) (CL_Web : Cls K c_Web) (NA_Web_near : NoAttr K c_Web "_near")
    (ME_mWeb_checkall : Meth K c_Web "_check_all" f_checkall) (B_mWeb_checkall : Binds K fd_checkall ["self", "within"] [])
    (G_mWeb_checkall : FnOk P w K mg base (L2N.CX P w) 4 f_checkall fd_checkall ["self", "within"] (spCkAll c_Web CN)) :
    FnOk P w K mg base (L2N.CX P w) 5 f fd ["self", "within"] (spBord c_Web CN) := by
  refine okN F sc_mWeb_border (fun vs H Q E h => ?_) (fun cdv A outer s H vs Q E hr h => ?_)
  · obtain ⟨x, p, Ps, T, W, rfl, _⟩ := h
    rfl
  · obtain ⟨x, p, Ps, T, W, rfl, hw, hs, hnd, h20, h60, hT, hp, few, h1, h2⟩ := h
    refine ⟨_, (pss_cons (ps_expr (pe_methP (pv 0) CL_Web ME_mWeb_checkall G_mWeb_checkall (hr.mono (by omega)) B_mWeb_checkall (fun σ => L2N.passAt (L2N.takes_of rfl rfl rfl rfl) σ) (pa_cons (pv 1) pa_nil)))
      (pss_cons (ps_set (i := 2) sc_mWeb_border.nd rfl (.inr rfl) (pe_callTy (cr_setOfSK (K := K) (P := P) (w := w) (by rfl)) (by rfl) B_set (by decide +kernel) (pa_cons (pv 1) pa_nil)))
      (pss_one (ps_ret (pe_callB (cr_sortedX (P := P) (w := w) (by rfl)) (by rfl) B_sorted (by decide +kernel) (pa_cons (pe_sc2P (P := P) (w := w) (own := [("place", 3), ("beside", 4)]) (vs1 := [4]) (g := gName 3) (g1 := gName 4) (tt := tYes) (tt1 := _) (by rfl) sc_mWeb_border.nd (pi_listK (K := K) (pv 1)) (blkOk_by (own := [("place", 3), ("beside", 4)]) (N := ["self", "within", "inside", "place", "beside"]) (sc := defScope s_mWeb_border) (by decide +kernel)) (by decide) (fun _ _ _ _ _ => pg_name (i := 3) sc_mWeb_border.nd rfl (Or.inl rfl)) (fun _ _ _ _ _ => pts_nil) (fun _ _ _ _ _ => (pi_listK (K := K) (pe_gS (hu_of hr) (pe_fldC CL_Web NA_Web_near (pv 0) (by rfl)) (pv 3) (fun _ _ => rfl)))) (fun _ _ _ _ _ => pg_name (i := 4) sc_mWeb_border.nd rfl (Or.inl rfl)) (fun _ _ _ _ _ => (pts_one (pt_cmpR (or_snotinKP (P := P) (w := w)) (pv 4) (pv 2) (by rfl)))) (fun _ _ _ _ _ => (pv 4))) pa_nil)))))), ?_⟩
    have hw2 := hw
    obtain ⟨pl, tl, nd, dx, vs, WA⟩ := hw2
    walk_at "st"
    refine ⟨dx, _, WA.ob, webF_no _ _ _ (by decide +kernel) (by decide +kernel) (by decide +kernel), x, p, Ps, T, W, rfl, hw, hp, fun ho => ?_, fun y hy => h2 y hy⟩
    have hin := odd_none ho
    walk_at "st"
    refine ⟨W, sq_of hp, few, fun sa c nsa => ?_⟩
    have k1 : Keeps H (L2.upd H sa (SetK P w sa (inW W W.length) c)) := Keeps.new nsa
    have hsa : L2.upd H sa (SetK P w sa (inW W W.length) c) sa = some (SetK P w sa (inW W W.length) c) := upd_same
    generalize L2.upd H sa (SetK P w sa (inW W W.length) c) = H1 at *
    obtain ⟨kvn, hn, _, hnl⟩ := near_has WA.nr
    unfold tSc2
    refine ⟨_, rfl, p, rfl, ⟨_, sq_of (k1 _ _ hp)⟩, fun D nD => ?_⟩
    refine sc_list (W.map V.str) (fun i H' => Keeps H1 H' ∧ ∃ S n, H' D = some (SetX P w D S n) ∧ n ≤ 20 ∧ ∀ y, S y = true ↔ y ∉ W ∧ ∃ z ∈ W.take i, Nbr T z y) ⟨Keeps.new nD, _, _, upd_same, Nat.zero_le _, fun y => ⟨fun h => (by cases h), fun ⟨_, z, h, _⟩ => (by rw [List.take_zero] at h; cases h)⟩⟩ (fun i H' h => sq_of (h.1 _ _ (k1 _ _ hp))) ?_ ?_
    · rintro i v H2 hv ⟨k2, S, n, hD, hn20, hS⟩
      obtain ⟨z, hz, rfl⟩ := get_map hv
      obtain ⟨l, hvz, hl⟩ := hnl z (hin z (List.mem_of_getElem? hz))
      have nlen : (sortS (nears T z)).length ≤ 120 := by rw [(sortS_pm _).length_eq]; have := nears_len T z; omega
      refine ⟨rfl, ?_⟩
      show tbFor (iList K (tG (tFldC c_Web (Str.ofString "_near") (tVar 0)) (tVar 3))) (gName 4) (tTest (tOp (rSInK P w true) (tVar 4) (tVar 2))) (tbAdd P w D (tVar 4)) [4] [some (V.ref x), some (V.ref p), some (V.ref sa), some (V.str z), none] H2 _
      unfold tbFor
      have k12 := k1.trans k2
      refine ⟨_, rfl, x, dx, _, .ref nd, rfl, k12 _ _ WA.ob, webF_near _ _ _, _, rfl, nd, rfl, z, rfl, kvn, k12 _ _ hn, .ref l, hvz, l, rfl, ⟨_, sq_of (k12 _ _ hl)⟩, ?_⟩
      refine sc_list ((sortS (nears T z)).map V.str) (fun j H' => Keeps H1 H' ∧ ∃ S n, H' D = some (SetX P w D S n) ∧ n ≤ 20 ∧ ∀ y, S y = true ↔ y ∉ W ∧ ((∃ z ∈ W.take i, Nbr T z y) ∨ y ∈ (sortS (nears T z)).take j)) ⟨k2, S, n, hD, hn20, fun y => by rw [hS y, List.take_zero]; simp⟩ (fun j H' h => sq_of (h.1 _ _ (k1 _ _ hl))) ?_ ?_
      · rintro j v H3 hv2 ⟨k3, S3, n3, hD3, hn3, hS3⟩
        obtain ⟨y, hy, rfl⟩ := get_map hv2
        have hyP : y ∈ Ps := ((nears_nbr z y).mp ((sortS_pm _).mem_iff.mp (List.mem_of_getElem? hy))).elim (fun g => (hT _ g).2) fun g => (hT _ g).1
        have hsa3 := k3 _ _ hsa
        refine ⟨rfl, ?_⟩
        refine ⟨_, rfl, _, rfl, Sum.inr y, sa, _, c, rfl, rfl, hsa3, _, rfl, ?_⟩
        have tk : ∀ u, u ∈ (sortS (nears T z)).take (j + 1) ↔ u ∈ (sortS (nears T z)).take j ∨ u = y := fun u => by rw [take_snoc hy, List.mem_append, List.mem_singleton]
        simp only [if_true, inW_all]
        by_cases hyW : y ∈ W
        · rw [decide_eq_true hyW, if_neg (by decide)]
          refine ⟨k3, S3, n3, hD3, hn3, fun u => ?_⟩
          rw [hS3 u, tk u]
          refine and_congr_right fun hu => ?_
          have : u ≠ y := fun e => hu (e ▸ hyW)
          simp [this]
        · rw [decide_eq_false hyW, if_pos (by decide)]
          have hS4 : ∀ u, (S3 u || decide (u = y)) = true ↔ u ∉ W ∧ ((∃ z ∈ W.take i, Nbr T z u) ∨ u ∈ (sortS (nears T z)).take (j + 1)) := fun u => by
            rw [Bool.or_eq_true, decide_eq_true_eq, hS3 u, tk u]
            constructor
            · rintro (⟨g1, g2⟩ | e)
              · exact ⟨g1, g2.elim .inl fun g => .inr (.inl g)⟩
              · exact ⟨e ▸ hyW, .inr (.inr e)⟩
            · rintro ⟨g1, g2 | g2 | g2⟩
              · exact .inl ⟨g1, .inl g2⟩
              · exact .inl ⟨g1, .inr g2⟩
              · exact .inr g2
          refine ⟨_, rfl, y, S3, n3, Ps.length, rfl, hD3, by unfold scanBound; omega, .inr ⟨Ps, fun u hu => ?_, rfl⟩, k3.put nD, _, _, upd_same, h20, hS4⟩
          obtain ⟨_, g⟩ := (hS4 u).mp hu
          rcases g with ⟨v, _, g⟩ | g
          · exact g.elim (fun g => (hT _ g).2) fun g => (hT _ g).1
          · exact ((nears_nbr z u).mp ((sortS_pm _).mem_iff.mp (List.mem_of_mem_take g))).elim (fun g => (hT _ g).2) fun g => (hT _ g).1
      · rintro H3 ⟨k3, S3, n3, hD3, hn3, hS3⟩
        rw [List.length_map, List.take_length] at hS3
        refine ⟨k3, S3, n3, hD3, hn3, fun y => ?_⟩
        rw [hS3 y, take_snoc hz]
        refine and_congr_right fun _ => ?_
        constructor
        · rintro (⟨u, hu, g⟩ | g)
          · exact ⟨u, List.mem_append_left _ hu, g⟩
          · exact ⟨z, List.mem_append_right _ List.mem_cons_self, (nears_nbr z y).mp ((sortS_pm _).mem_iff.mp g)⟩
        · rintro ⟨u, hu, g⟩
          rcases List.mem_append.mp hu with hu | hu
          · exact .inl ⟨u, hu, g⟩
          · rw [List.mem_singleton.mp hu] at g
            exact .inr ((sortS_pm _).mem_iff.mpr ((nears_nbr z y).mpr g))
    · rintro H2 ⟨k2, S, n, hD, hn20, hS⟩
      rw [List.length_map, List.take_length] at hS
      refine ⟨D, rfl, S, n, hD, by omega, fun q ys hys ndy hmy _ nq => ?_⟩
      have e : ys = bord Ps T W := by
        rw [← hys]
        refine sortS_filter hs hnd ndy fun y => ?_
        rw [hmy y, hS y, Bool.and_eq_true, decide_eq_true_eq, List.any_eq_true]
        constructor
        · rintro ⟨g1, z, hz, g2⟩
          exact ⟨g2.elim (fun g => (hT _ g).2) fun g => (hT _ g).1, g1, z, (sortS_pm _).mem_iff.mpr ((nears_nbr y z).mpr (g2.elim .inr .inl)), decide_eq_true hz⟩
        · rintro ⟨_, g1, z, hz, g2⟩
          exact ⟨g1, z, of_decide_eq_true g2, ((nears_nbr y z).mp ((sortS_pm _).mem_iff.mp hz)).elim .inr .inl⟩
      have k12 := k1.trans k2
      have nq0 := k12.free nq
      exact h1 ho q _ (k12.put nq0) nq0 (by rw [e]; exact upd_same)
end
end K01
namespace K01
open PySem PySem.Spec PyProof.Rows L2 TL HotExc L2H HotLc Tw WX
local macro_rules | `(tactic| walk_at "rd") => `(tactic| simp only [start1, tMethP, tG1, rSetOfS, tDisp, tPairs, rSInK, tAug, ipI, wipe, isR, isBool, isInt, isStr, isLst, isTup, tAsg, gName, gSub, tVar, tC, tOp, tUn, tTest, tIfS, tRet, tRetN, tDrop, tB, tAnd, tOr, tNot, tAndV, tOrV, tNotV, tIf, tCB, tCons, tNil, tNext, tCall, tBM, tTup, tLst, rU, rInW, rNinW, Int.reduceNeg, tG, tG2, sP, tFldC, sFldC, tProp, tMeth, tMake, rOwnC, rLenO, rIsC, rNoT, tAddT, tSAddK, rSAddK, rSInK, rSet0K, rSet0T, rMinS, rMaxS, rSortedQ, rSortedT, rEqD, rNeD, rIxD, dcL_eq, dcZ_eq, lcO_eq, forE_eq, forT_eq, lcS_eq, ItX.rIterN, iOwn, List.append_nil, tDisp, tPairs, tCallS, tCallSD, tCallT, StX.tStar, tCallK, tCallKS, rTupOf, tDrop, rI0, rI, rEq, rNe, scal, forR_eq, forR2_eq, forS_eq, forL_eq, lcT_eq, lcRT_eq, lcS_eq, rLenX, rLenS, rListOf, tRevL, rMulS, rRepL, rCatL, rSumN, rMaxN, tBM0, rPop, tAug, ipI,  tPart, tNoPart, CwR.tReplC, rAllK, rInSg, rNinSg, sgn_inj, rAddS, rInSt, tChain, tM1, tM0, rSplitN, rJoinN, exists_eq, rIntI, rIntB, rIntS, rStrI, rAbs, rOrd, rMin, rMax, rIxL, rIxX, rSetL, rAppend, rIxS, rSlS, rSlL, tSl, List.map_cons, List.map_nil, List.replicate_succ, List.replicate_zero, List.length_cons, List.length_nil, Nat.reduceSub, Nat.reduceAdd, Nat.zero_add, Nat.sub_self, List.getElem?_cons_zero, List.getElem?_cons_succ, List.set_cons_zero, List.set_cons_succ, List.append_nil, List.nil_append, List.cons_append, Option.some.injEq, not_true_eq_false, reduceCtorEq, exists_eq_left', exists_eq_left, exists_eq', exists_and_left, exists_and_right, V.int.injEq, V.str.injEq, V.bl.injEq, V.ref.injEq, List.cons.injEq, and_true, true_and, and_assoc, decide_eq_true_eq, Bool.not_eq_true', decide_eq_false_iff_not, ite_true, ite_false, if_true, if_false, Bool.not_true, Bool.not_false, Bool.false_eq_true, eq_self_iff_true, reduceIte, ne_eq, Int.reduceEq, not_false_eq_true])
local macro_rules | `(tactic| walk_at "rt") => `(tactic| try walk_at "rd")
local macro_rules | `(tactic| walk_at "st") => `(tactic| (walk_at "rt"; refine r_seq ?_; walk_at "rt"))
local macro_rules | `(tactic| walk_at "hp") => `(tactic| first | assumption | exact upd_same | (rw [upd_ne (by assumption)]; walk_at "hp"))
local macro_rules | `(tactic| walk_at "ex1") => `(tactic| ((with_reducible refine Exists.intro ?w (And.intro ?hx ?_)); (case hx => first | exact sq_of (by walk_at "hp") | exact .inl (sq_of (by walk_at "hp")) | exact rfl | (show _ = some (HO.lst _); walk_at "hp"))))
local macro_rules | `(tactic| walk_at "ex") => `(tactic| repeat (first | walk_at "ex1" | walk_at "rd"))
theorem StoreAt.n2 {H : Hp} {a c p : Addr} {x y : V} (S : StoreAt H a c) (h : H p = some (.lst [x, y])) : p ≠ a := fun z => by
  obtain ⟨⟨cells, pos, val, turn, seed, e, _⟩, _⟩ := S
  rw [z, e] at h
  have h := HO.lst.inj (Option.some.inj h)
  simp at h
theorem StoreAt.n3 {H : Hp} {a c p : Addr} {x y z : V} (S : StoreAt H a c) (h : H p = some (.lst [x, y, z])) : p ≠ a := fun e0 => by
  obtain ⟨⟨cells, pos, val, turn, seed, e, _⟩, _⟩ := S
  rw [e0, e] at h
  have h := HO.lst.inj (Option.some.inj h)
  simp at h
theorem StoreAt.n4 {H : Hp} {a c p : Addr} {x y z u : V} (S : StoreAt H a c) (h : H p = some (.lst [x, y, z, u])) : p ≠ a := fun e0 => by
  obtain ⟨⟨cells, pos, val, turn, seed, e, _⟩, _⟩ := S
  rw [e0, e] at h
  have h := HO.lst.inj (Option.some.inj h)
  simp at h
theorem StoreAt.nI {H : Hp} {a c p C dx : Addr} {fs : List (Str × V)} (S : StoreAt H a c) (h : H p = some (.ins C dx fs)) : p ≠ a := fun z => by
  obtain ⟨⟨cells, pos, val, turn, seed, e, _⟩, _⟩ := S
  rw [z, e] at h
  cases h
theorem IsWeb.but {C : Addr} {H H' : Hp} {a c x : Addr} {Ps : List Str} {T : List (Str × Str)} (h : IsWeb C H x Ps T) (S : StoreAt H a c) (b : But a H H') : IsWeb C H' x Ps T := by
  obtain ⟨pl, tl, nd, dx, vs, W⟩ := h
  exact ⟨pl, tl, nd, dx, vs, b _ _ (S.nI W.ob) W.ob, b _ _ (S.nS W.pl_) W.pl_, b _ _ (S.nP W.tl_ W.pt) W.tl_, W.pt.but S b, W.nr.but b (fun p xs h => S.nS h) (fun p kvs h => S.nK h)⟩
theorem mk_web {CW x dx p t : Addr} {H : Hp} {Ps : List Str} {E : List (Str × Str)} {Qc : Hp → Prop} {EE : XK} (hx : H x = none) (hd : H dx = none) (ne : ¬ dx = x) (hA : Args H p t Ps E) (F : Fit Ps E) (q : ∀ H', Keeps H H' → IsWeb CW H' x (sortS Ps) (sortP (E.map ordP)) → Qc H') :
    spInW CW [.ref x, .ref p, .ref t] (L2.upd (L2.upd H dx (.own x)) x (.ins CW dx [])) (fun v H2 => v = .non ∧ Qc H2) EE := by
  have h2 : L2.upd H dx (.own x) x = none := (upd_ne (fun z => ne z.symm)).trans hx
  have k : Keeps H (L2.upd (L2.upd H dx (.own x)) x (.ins CW dx [])) := (Keeps.new hd).trans (Keeps.new h2)
  exact ⟨x, p, t, dx, Ps, E, rfl, upd_same, hA.keep k, F, fun H' b h => ⟨rfl, q H' (fun a o e => b _ _ (fun z => by rw [z, hx] at e; cases e) (k _ _ e)) h⟩⟩
/-- a web and one with some of its ties, each beside the made one -/
structure Two (C : Addr) (H : Hp) (lb rw rl : Addr) (Ps : List Str) (T T1 : List (Str × Str)) : Prop where
  web : LW H rw Ps T
  less : LW H rl Ps T1
  wok : Wok Ps T
  lok : Wok Ps T1
  b : ∃ t1 t2 m1 m2, H lb = some (.lst [.ref t1, .ref t2]) ∧ H t1 = some (.tup [.ref rw, .ref m1]) ∧ H t2 = some (.tup [.ref rl, .ref m2]) ∧ IsWeb C H m1 Ps T ∧ IsWeb C H m2 Ps T1
theorem Two.but {C : Addr} {H H' : Hp} {a c lb rw rl : Addr} {Ps : List Str} {T T1 : List (Str × Str)} (h : Two C H lb rw rl Ps T T1) (S : StoreAt H a c) (b : But a H H') : Two C H' lb rw rl Ps T T1 := by
  obtain ⟨t1, t2, m1, m2, h1, h2, h3, h4, h5⟩ := h.b
  exact ⟨h.web.but S b, h.less.but S b, h.wok, h.lok, t1, t2, m1, m2, b _ _ (S.n2 h1) h1, b _ _ (S.nT h2) h2, b _ _ (S.nT h3) h3, h4.but S b, h5.but S b⟩
theorem Two.keep {C : Addr} {H H' : Hp} {lb rw rl : Addr} {Ps : List Str} {T T1 : List (Str × Str)} (h : Two C H lb rw rl Ps T T1) (k : Keeps H H') : Two C H' lb rw rl Ps T T1 := by
  obtain ⟨t1, t2, m1, m2, h1, h2, h3, h4, h5⟩ := h.b
  exact ⟨h.web.keep k, h.less.keep k, h.wok, h.lok, t1, t2, m1, m2, k _ _ h1, k _ _ h2, k _ _ h3, h4.keep k, h5.keep k⟩
end K01
namespace K01
open PySem PySem.Spec PyProof.Rows L2 TL HotExc L2H HotLc Tw WX
local macro_rules | `(tactic| walk_at "rd") => `(tactic| simp only [start1, tMethP, tG1, rSetOfS, tDisp, tPairs, rSInK, tAug, ipI, rSortedDS, rInD, rSetXc, rSortedX, tUpd, wipe, isR, isBool, isInt, isStr, isLst, isTup, tAsg, gName, gSub, tVar, tC, tOp, tUn, tTest, tIfS, tRet, tRetN, tDrop, tB, tAnd, tOr, tNot, tAndV, tOrV, tNotV, tIf, tCB, tCons, tNil, tNext, tCall, tBM, tTup, tLst, rU, rInW, rNinW, Int.reduceNeg, tG, tG2, sP, tFldC, sFldC, tProp, tMeth, tMake, rOwnC, rLenO, rIsC, rNoT, tAddT, tSAddK, rSAddK, rSInK, rSet0K, rSet0T, rMinS, rMaxS, rSortedQ, rSortedT, rEqD, rNeD, rIxD, dcL_eq, dcZ_eq, lcO_eq, forE_eq, forT_eq, lcS_eq, ItX.rIterN, iOwn, List.append_nil, tDisp, tPairs, tCallS, tCallSD, tCallT, StX.tStar, tCallK, tCallKS, rTupOf, tDrop, rI0, rI, rEq, rNe, scal, forR_eq, forR2_eq, forS_eq, forL_eq, lcT_eq, lcRT_eq, lcS_eq, rLenX, rLenS, rListOf, tRevL, rMulS, rRepL, rCatL, rSumN, rMaxN, tBM0, rPop, tAug, ipI,  tPart, tNoPart, CwR.tReplC, rAllK, rInSg, rNinSg, sgn_inj, rAddS, rInSt, tChain, tM1, tM0, rSplitN, rJoinN, exists_eq, rIntI, rIntB, rIntS, rStrI, rAbs, rOrd, rMin, rMax, rIxL, rIxX, rSetL, rAppend, rIxS, rSlS, rSlL, tSl, List.map_cons, List.map_nil, List.replicate_succ, List.replicate_zero, List.length_cons, List.length_nil, Nat.reduceSub, Nat.reduceAdd, Nat.zero_add, Nat.sub_self, List.getElem?_cons_zero, List.getElem?_cons_succ, List.set_cons_zero, List.set_cons_succ, List.append_nil, List.nil_append, List.cons_append, Option.some.injEq, not_true_eq_false, reduceCtorEq, exists_eq_left', exists_eq_left, exists_eq', exists_and_left, exists_and_right, V.int.injEq, V.str.injEq, V.bl.injEq, V.ref.injEq, List.cons.injEq, and_true, true_and, and_assoc, decide_eq_true_eq, Bool.not_eq_true', decide_eq_false_iff_not, ite_true, ite_false, if_true, if_false, Bool.not_true, Bool.not_false, Bool.false_eq_true, eq_self_iff_true, reduceIte, ne_eq, Int.reduceEq, not_false_eq_true])
local macro_rules | `(tactic| walk_at "rt") => `(tactic| try walk_at "rd")
local macro_rules | `(tactic| walk_at "st") => `(tactic| (walk_at "rt"; refine r_seq ?_; walk_at "rt"))
local macro_rules | `(tactic| walk_at "hp") => `(tactic| first | assumption | exact upd_same | (rw [upd_ne (by assumption)]; walk_at "hp"))
local macro_rules | `(tactic| walk_at "ex1") => `(tactic| ((with_reducible refine Exists.intro ?w (And.intro ?hx ?_)); (case hx => first | exact sq_of (by walk_at "hp") | exact .inl (sq_of (by walk_at "hp")) | exact rfl | (show _ = some (HO.lst _); walk_at "hp"))))
local macro_rules | `(tactic| walk_at "ex") => `(tactic| repeat (first | walk_at "ex1" | walk_at "rd"))
abbrev s_ascending : Stmt := topS 52
theorem sc_ascending : FnScope ["row", "k"] ["row"] (defScope s_ascending) := ⟨rfl, rfl, rfl, by decide +kernel, rfl, by decide +kernel, by decide +kernel⟩
abbrev s_outside : Stmt := topS 71
theorem sc_outside : FnScope ["web", "within", "found", "tie", "place", "pair"] ["web", "within"] (defScope s_outside) := ⟨rfl, rfl, rfl, by decide +kernel, rfl, by decide +kernel, by decide +kernel⟩
def spAsc : Sp := fun vs H Q _ => ∃ (p : Addr) (g : List Str), vs = [.ref p] ∧ H p = some (.lst (g.map V.str)) ∧ g.length ≤ 100 ∧ g.Pairwise ltS ∧ Q (.bl true) H
def spOut : Sp := fun vs H Q _ => ∃ (r p : Addr) (Ps : List Str) (T : List (Str × Str)) (W : List Str), vs = [.ref r, .ref p] ∧ LW H r Ps T ∧ Wok Ps T ∧ H p = some (.lst (W.map V.str)) ∧ ∀ q H', Keeps H H' → H q = none → H' q = some (.lst ((bord Ps T W).map V.str)) → Q (.ref q) H'
def swp (e : Str × Str) : Str × Str := (e.2, e.1)
/-- [(pair[1], pair[0]) for pair in ties] -/
theorem swap_lc {K : PySem.W.Frag} {ta D : Addr} {T : List (Str × Str)} {tvs : List V} {H : Hp} {Q : Hp → Prop} {x0 x1 x2 x3 x4 x5 : Option V} (hta : H ta = some (.lst tvs)) (htt : PT H T tvs) (few : T.length ≤ 60) (nD : H D = none) (q : ∀ H' ys, Keeps H H' → H' D = some (.lst ys) → PT H' (T.map swp) ys → Q H') :
    LcT (Itl K ta) (gName 5) tYes (tTup (tCons (tOp (rIxX K) (tVar 5) (tC (.int 1))) (tCons (tOp (rIxX K) (tVar 5) (tC (.int 0))) tNil))) [5] [x0, x1, x2, x3, x4, x5] H D Q := by
  refine r_lcT tvs (fun i H' => Keeps H H' ∧ ∃ ys, H' D = some (.lst ys) ∧ PT H' ((T.take i).map swp) ys) (fun _ => rfl) ⟨Keeps.new nD, [], upd_same, PT.nil⟩ (fun i H' _ h => sq_of (h.1 _ _ hta)) ?_ ?_
  · rintro i v H' hv ⟨k, ys, hD, hP⟩ N M kN kM
    have hi : i < T.length := by have := lt_of_get hv; have := htt.1; omega
    have he := List.getElem?_eq_getElem hi
    generalize T[i] = e0 at he
    obtain ⟨u, rfl, hu⟩ := htt.2 i _ v he hv
    have tt : SqL K H' u [.str e0.1, .str e0.2] ∨ SqT K H' u [.str e0.1, .str e0.2] := .inr (tup_at (k _ _ hu))
    walk_at "rt"
    refine ⟨_, tt, _, rfl, _, tt, _, rfl, Nat.le_of_ble_eq_true rfl, fun b nb => ?_⟩
    have h1 : ys.length ≤ 60 := by rw [hP.1, List.length_map, List.length_take]; omega
    have D1 : L2.upd H' b (.tup [.str e0.2, .str e0.1]) D = some (.lst ys) := (upd_ne (ne_of_none hD nb)).trans hD
    have y1 : PT (L2.upd H' b (.tup [.str e0.2, .str e0.1])) ((T.take (i + 1)).map swp) (ys ++ [.ref b]) := by
      rw [take_snoc he, List.map_append]
      exact (hP.keeps (Keeps.new nb)).snoc upd_same
    exact kN (.ref b) _ ys D1 (size_ok (by omega)) ⟨(k.put (k.free nb)).put nD, _, upd_same, y1.upd D1 fun xs z => by cases z⟩
  · rintro H' ⟨k, ys, hD, hP⟩
    rw [htt.1, List.take_length] at hP
    exact q H' ys k hD hP
theorem PT.app {H : Hp} {T T' : List (Str × Str)} {xs ys : List V} (h : PT H T xs) (g : PT H T' ys) : PT H (T ++ T') (xs ++ ys) := by
  refine ⟨by rw [List.length_append, List.length_append, h.1, g.1], fun i p v h1 h2 => ?_⟩
  rw [List.getElem?_append] at h1 h2
  by_cases hi : i < T.length
  · rw [if_pos hi] at h1
    rw [if_pos (by rw [h.1]; exact hi)] at h2
    exact h.2 i p v h1 h2
  · rw [if_neg hi] at h1
    rw [if_neg (by rw [h.1]; exact hi), h.1] at h2
    exact g.2 _ p v h1 h2
theorem nbr_two {T : List (Str × Str)} {x y : Str} : (x, y) ∈ T ++ T.map swp ↔ Nbr T x y := by
  rw [List.mem_append, List.mem_map]
  constructor
  · rintro (h | ⟨e, h, g⟩)
    · exact .inl h
    · have := Prod.ext_iff.mp g
      exact .inr (by obtain ⟨a, b⟩ := e; simp [swp] at g; obtain ⟨rfl, rfl⟩ := g; exact h)
  · rintro (h | h)
    · exact .inl h
    · exact .inr ⟨(y, x), h, rfl⟩
theorem asc_get {g : List Str} (asc : g.Pairwise ltS) {i : Nat} {a b : Str} (ha : g[i]? = some a) (hb : g[i + 1]? = some b) : ltS a b := by
  obtain ⟨h1, e1⟩ := List.getElem?_eq_some_iff.mp ha
  obtain ⟨h2, e2⟩ := List.getElem?_eq_some_iff.mp hb
  have := List.pairwise_iff_getElem.mp asc i (i + 1) h1 h2 (by omega)
  rwa [e1, e2] at this
section
variable {P : Program} {w : World} {K : PySem.W.Frag} {mg : Str → Option Value} {base : Heap}
theorem ok_ascending {f : Addr} {fd : FuncData} (B : Bi mg) (D : Dn K mg "_law_ascending" s_ascending ["row"] f fd) : FnOk P w K mg base CX0 1 f fd ["row"] spAsc := by
  refine D.F.ok sc_ascending (fun vs H Q E h => ?_) (fun cdv A outer s H vs Q E hr h => ?_)
  · obtain ⟨p, g, rfl, _⟩ := h
    rfl
  · obtain ⟨p, g, rfl, hp, few, asc, q⟩ := h
    refine ⟨_, (pss_cons (ps_if (pt_not (pt_val (pe_callB call_is_list (by rfl) B.isinstance (by decide +kernel) (pa_cons (pv 0) (pa_cons (pe_bltn (v := .ty "list") (by rfl) B.list_ (by decide +kernel) rfl) pa_nil))))) (pss_one (ps_ret pe_bl)) pss_nil)
      (pss_cons (ps_for PassesOwn.never rfl (pi_range2 (by rfl) B.range (pa_cons pe_int (pa_cons (pe_callB (call_lenXK (K := K)) (by rfl) B.len PySem.boot_len (pa_cons (pv 0) pa_nil)) pa_nil))) (pg_name (i := 1) sc_ascending.nd rfl (.inl rfl)) (pss_one (ps_if (pt_not (pt_cmpR op_lt_str (pe_ix (ix_listK (K := K)) (pv 0) (pe_op op_sub (pv 1) pe_int) (fun _ _ => rfl)) (pe_ix (ix_listK (K := K)) (pv 0) (pv 1) (fun _ _ => rfl)) (nomark _))) (pss_one (ps_ret pe_bl)) pss_nil)))
      (pss_one (ps_ret pe_bl)))), ?_⟩
    walk_at "st"
    refine ⟨All, dStrs g, at_strs hp (by omega), ?_⟩
    simp only [dStrs, Bool.true_eq_false, if_false]
    walk_at "st"
    refine ⟨_, .inl (sq_of hp), by decide, by decide, by rw [List.length_map]; omega, by rw [List.length_map]; omega, ?_⟩
    refine r_range (fun i σ H' => (∃ x, σ = [some (.ref p), x]) ∧ H' = H) ⟨⟨_, rfl⟩, rfl⟩ ?_ ?_
    · rintro i σ H' hi ⟨⟨x, rfl⟩, rfl⟩ N kk
      rw [List.length_map] at hi
      have hi2 : i + 1 < g.length := by omega
      have ha := List.getElem?_eq_getElem (show i < g.length by omega)
      have hb := List.getElem?_eq_getElem hi2
      have lt := asc_get asc ha hb
      have at1 : atI (g.map V.str) (1 + (i : Int) - 1) = some (.str g[i]) := by
        rw [show (1 + (i : Int) - 1) = (i : Int) by omega]
        exact atI_nat (by rw [List.getElem?_map, ha]; rfl)
      have at2 : atI (g.map V.str) (1 + (i : Int)) = some (.str g[i + 1]) := by
        rw [show (1 + (i : Int)) = ((i + 1 : Nat) : Int) by omega]
        exact atI_nat (by rw [List.getElem?_map, hb]; rfl)
      walk_at "rt"
      exact ⟨_, sq_of hp, _, at1, _, sq_of hp, _, at2, _, rfl, _, rfl, ite2 (fun h => absurd lt h) (fun _ => kk _ _ ⟨⟨_, rfl⟩, rfl⟩)⟩
    · rintro σ H' ⟨⟨x, rfl⟩, rfl⟩
      walk_at "rt"
      exact q
theorem ok_outside {f : Addr} {fd : FuncData} (B : Bi mg) (D : Dn K mg "_law_outside" s_outside ["web", "within"] f fd) : FnOk P w K mg base CX0 1 f fd ["web", "within"] spOut := by
  refine D.F.ok sc_outside (fun vs H Q E h => ?_) (fun cdv A outer s H vs Q E hr h => ?_)
  · obtain ⟨r, p, Ps, T, W, rfl, _⟩ := h
    rfl
  · obtain ⟨r, p, Ps, T, W, rfl, ⟨pa, ta, ⟨nd, hr0, hnd⟩, hpa, tvs, hta, htt⟩, wok, hp, q⟩ := h
    refine ⟨_, (pss_cons (ps_set (i := 2) sc_outside.nd rfl (.inr rfl) (pe_lst pa_nil))
      (pss_cons (ps_for PassesOwn.never rfl (pi_listK (K := K) (pe_op op_catL (pe_ix (ix_sxK (K := K)) (pv 0) pe_int (fun _ _ => rfl)) (pe_lc (own := [("pair", 5)]) (g := gName 5) (tt := tYes) (by rfl) sc_outside.nd (pi_listK (K := K) (pe_ix (ix_sxK (K := K)) (pv 0) pe_int (fun _ _ => rfl))) (blkOk_by (own := [("pair", 5)]) (N := ["web", "within", "found", "tie", "place", "pair"]) (sc := defScope s_outside) (by decide +kernel)) (fun _ _ _ _ _ => pg_name (i := 5) sc_outside.nd rfl (Or.inl rfl)) (fun _ _ _ _ _ => pts_nil) (fun _ _ _ _ _ => (pe_tup (pa_cons (pe_ix (ix_sxK (K := K)) (pv 5) pe_int (fun _ _ => rfl)) (pa_cons (pe_ix (ix_sxK (K := K)) (pv 5) pe_int (fun _ _ => rfl)) pa_nil))))))) (pg_name (i := 3) sc_outside.nd rfl (.inl rfl)) (pss_one (ps_if (PW.pt (pw_and (pt_cmpR (op_inW (K := K)) (pe_ix (ix_sxK (K := K)) (pv 3) pe_int (fun _ _ => rfl)) (pv 1) (by rfl)) (pw_and1 (pt_cmpR (op_ninW (K := K)) (pe_ix (ix_sxK (K := K)) (pv 3) pe_int (fun _ _ => rfl)) (pv 1) (by rfl))))) (pss_one (ps_expr (pe_bm PySem.F.plainAttrs_list PySem.F.slot_list_append PySem.F.type_list_append mt_append (pv 2) (pa_cons (pe_ix (ix_sxK (K := K)) (pv 3) pe_int (fun _ _ => rfl)) pa_nil)))) pss_nil)))
      (pss_one (ps_ret (pe_lc (own := [("place", 4)]) (g := gName 4) (by rfl) sc_outside.nd (pi_listK (K := K) (pe_ix (ix_sxK (K := K)) (pv 0) pe_int (fun _ _ => rfl))) (blkOk_by (own := [("place", 4)]) (N := ["web", "within", "found", "tie", "place", "pair"]) (sc := defScope s_outside) (by decide +kernel)) (fun _ _ _ _ _ => pg_name (i := 4) sc_outside.nd rfl (Or.inl rfl)) (fun _ _ _ _ _ => (pts_one (pt_cmpR (op_inW (K := K)) (pv 4) (pv 2) (by rfl)))) (fun _ _ _ _ _ => (pv 4))))))), ?_⟩
    have web : ∀ H', Keeps H H' → SqL K H' r [.ref pa, .ref ta, .ref nd] ∨ SqT K H' r [.ref pa, .ref ta, .ref nd] := fun H' k => .inr (tup_at (k _ _ hr0))
    walk_at "st"
    refine ⟨Nat.zero_le _, fun fo nfo => ?_⟩
    have k0 : Keeps H (L2.upd H fo (.lst [])) := Keeps.new nfo
    have hfo : L2.upd H fo (.lst []) fo = some (.lst []) := upd_same
    generalize L2.upd H fo (.lst []) = H1 at *
    walk_at "st"
    have few := wok.fit.e60
    refine ⟨_, web _ k0, _, rfl, _, web _ k0, _, rfl, ta, rfl, ⟨_, sq_of (k0 _ _ hta)⟩, fun sd nsd => swap_lc (k0 _ _ hta) (htt.keeps k0) few nsd fun H2 ys k2 hsd hsw => ?_⟩
    have k02 := k0.trans k2
    have l2 : ys.length ≤ 60 := by rw [hsw.1, List.length_map]; exact few
    refine ⟨ta, rfl, tvs, k02 _ _ hta, ys, hsd, Nat.le_of_lt (size_ok (by rw [htt.1]; omega)), fun cl ncl => ?_⟩
    have hPT : PT (L2.upd H2 cl (.lst (tvs ++ ys))) (T ++ T.map swp) (tvs ++ ys) := PT.app (htt.keeps (k02.trans (Keeps.new ncl))) (hsw.keeps (Keeps.new ncl))
    have k03 := k02.trans (Keeps.new (x := .lst (tvs ++ ys)) ncl)
    have hcl : L2.upd H2 cl (.lst (tvs ++ ys)) cl = some (.lst (tvs ++ ys)) := upd_same
    have hfo3 : L2.upd H2 cl (.lst (tvs ++ ys)) fo = some (.lst []) := (Keeps.new ncl) _ _ (k2 _ _ hfo)
    have hlen : (T ++ T.map swp).length ≤ 120 := by rw [List.length_append, List.length_map]; omega
    generalize L2.upd H2 cl (.lst (tvs ++ ys)) = H3 at *
    generalize tvs ++ ys = cvs at *
    refine ⟨⟨_, sq_of hcl⟩, ?_⟩
    refine r_list cvs (fun j σ H' => (∃ x3, σ = [some (.ref r), some (.ref p), some (.ref fo), x3, none, none]) ∧ Keeps H H' ∧ H' cl = some (.lst cvs) ∧ PT H' (T ++ T.map swp) cvs ∧ ∃ us : List Str, H' fo = some (.lst (us.map V.str)) ∧ us.length ≤ j ∧ ∀ y, y ∈ us ↔ y ∉ W ∧ ∃ z ∈ W, (z, y) ∈ (T ++ T.map swp).take j)
      ⟨⟨_, rfl⟩, k03, hcl, hPT, [], hfo3, Nat.zero_le _, fun y => ⟨fun h => (by cases h), fun ⟨_, z, _, h⟩ => (by rw [List.take_zero] at h; cases h)⟩⟩ (fun j σ H' _ h => sq_of h.2.2.1) ?_ ?_
    · rintro j v σ H4 hv ⟨⟨x3, rfl⟩, k4, hcl4, hPT4, us, hfo4, hul, hus⟩ N kk
      have hj : j < (T ++ T.map swp).length := by have := lt_of_get hv; have := hPT4.1; omega
      have he := List.getElem?_eq_getElem hj
      generalize (T ++ T.map swp)[j] = e0 at he
      obtain ⟨u, rfl, hu⟩ := hPT4.2 j _ v he hv
      have tt : SqL K H4 u [.str e0.1, .str e0.2] ∨ SqT K H4 u [.str e0.1, .str e0.2] := .inr (tup_at hu)
      have hp4 := k4 _ _ hp
      walk_at "rt"
      have hfoT : ∀ {a : Addr} {xs : List V}, H4 a = some (.tup xs) → a ≠ fo := fun h e => by rw [e, hfo4] at h; cases h
      have step : ∀ y, (∃ z ∈ W, (z, y) ∈ (T ++ T.map swp).take (j + 1)) ↔ (∃ z ∈ W, (z, y) ∈ (T ++ T.map swp).take j) ∨ (e0.1 ∈ W ∧ e0.2 = y) := fun y => by
        rw [take_snoc he]
        constructor
        · rintro ⟨z, hz, h⟩
          rcases List.mem_append.mp h with h | h
          · exact .inl ⟨z, hz, h⟩
          · have := List.mem_singleton.mp h
            exact .inr ⟨by rw [← this]; exact hz, by rw [← this]⟩
        · rintro (⟨z, hz, h⟩ | ⟨hz, rfl⟩)
          · exact ⟨z, hz, List.mem_append_left _ h⟩
          · exact ⟨e0.1, hz, List.mem_append_right _ List.mem_cons_self⟩
      have stay : ¬ (e0.1 ∈ W ∧ e0.2 ∉ W) → N [some (.ref r), some (.ref p), some (.ref fo), some (.ref u), none, none] H4 := fun hn => kk _ _ ⟨⟨_, rfl⟩, k4, hcl4, hPT4, us, hfo4, by omega, fun y => by
        rw [hus y, step y]
        refine and_congr_right fun hy => ⟨.inl, fun h => h.elim id fun ⟨h1, h2⟩ => absurd ⟨h1, h2 ▸ hy⟩ hn⟩⟩
      refine ⟨_, tt, _, rfl, _, rfl, W, .inl (sq_of hp4), ite2 (fun h1 => ?_) (fun h1 => stay fun z => h1 z.1)⟩
      refine ⟨_, tt, _, rfl, _, rfl, W, .inl (sq_of hp4), ite2 (fun h2 => ?_) (fun h2 => stay fun z => h2 z.2)⟩
      refine ⟨.inl ⟨rfl, _, sq_of hfo4⟩, _, tt, _, rfl, _, hfo4, size_ok (by rw [List.length_map]; omega), kk _ _ ⟨⟨_, rfl⟩, k4.put nfo, (upd_ne (fun e => ?_)).trans hcl4, hPT4.upd hfo4 (fun xs z => by cases z), us ++ [e0.2], upd_same.trans (by rw [List.map_append]; rfl), by rw [List.length_append, List.length_singleton]; omega, fun y => ?_⟩⟩
      · rw [e, hfo3] at hcl
        have h3 := HO.lst.inj (Option.some.inj hcl)
        rw [← h3] at hv
        cases hv
      · rw [List.mem_append, List.mem_singleton, hus y, step y]
        constructor
        · rintro (⟨g1, g2⟩ | rfl)
          · exact ⟨g1, .inl g2⟩
          · exact ⟨h2, .inr ⟨h1, rfl⟩⟩
        · rintro ⟨g1, g2 | ⟨_, g2⟩⟩
          · exact .inl ⟨g1, g2⟩
          · exact .inr g2.symm
    · rintro σ H4 ⟨⟨x3, rfl⟩, k4, hcl4, hPT4, us, hfo4, hul, hus⟩
      walk_at "rt"
      rw [hPT4.1, List.take_length] at hus
      refine ⟨_, web _ k4, _, rfl, pa, rfl, ⟨_, sq_of (k4 _ _ hpa)⟩, fun Dd nD => ?_⟩
      have hb : ∀ y ∈ Ps, (y ∈ us ↔ (decide (y ∉ W) && (sortS (nears T y)).any fun z => decide (z ∈ W)) = true) := fun y _ => by
        rw [hus y, Bool.and_eq_true, decide_eq_true_eq, List.any_eq_true]
        refine and_congr_right fun _ => ?_
        constructor
        · rintro ⟨z, hz, g⟩
          exact ⟨z, (sortS_pm _).mem_iff.mpr ((nears_nbr y z).mpr ((nbr_two.mp g).elim .inr .inl)), decide_eq_true hz⟩
        · rintro ⟨z, g, hz⟩
          exact ⟨z, of_decide_eq_true hz, nbr_two.mpr (((nears_nbr y z).mp ((sortS_pm _).mem_iff.mp g)).elim .inr .inl)⟩
      have h20 := wok.fit.p20
      refine r_lcT (Ps.map V.str) (fun i H' => Keeps H4 H' ∧ H' Dd = some (.lst ((bord (Ps.take i) T W).map V.str))) (fun _ => rfl) ⟨Keeps.new nD, upd_same⟩ (fun i H' _ h => sq_of (h.1 _ _ (k4 _ _ hpa))) ?_ ?_
      · rintro i v H' hx ⟨k, hD⟩ N M kN kM
        obtain ⟨z, h1, rfl⟩ := get_map hx
        have hi := lt_of_get h1
        have fs := filter_snoc (p := fun x => decide (x ∉ W) && (sortS (nears T x)).any fun y => decide (y ∈ W)) h1
        have bl : (bord (Ps.take i) T W).length ≤ 20 := by
          refine Nat.le_trans (List.length_filter_le _ _) ?_
          rw [List.length_take]
          omega
        have hz := hb z (List.mem_of_getElem? h1)
        walk_at "rt"
        refine ⟨us, .inl (sq_of (k _ _ hfo4)), ite2 (fun h => ?_) (fun h => ?_)⟩
        · refine kN _ H' _ hD (size_ok (by rw [List.length_map]; omega)) ⟨k.put nD, ?_⟩
          rw [upd_same]
          unfold bord
          rw [fs, if_pos (hz.mp h), List.map_append]
          rfl
        · refine kM H' ⟨k, ?_⟩
          unfold bord
          rw [fs, if_neg (fun g => h (hz.mpr g)), List.append_nil]
          exact hD
      · rintro H' ⟨k, hD⟩
        rw [List.length_map, List.take_length] at hD
        exact q Dd H' (k4.trans k) (k4.free nD) hD
end
end K01
namespace K01
open PySem PySem.Spec PyProof.Rows L2 TL HotExc L2H HotLc Tw WX
local macro_rules | `(tactic| walk_at "rd") => `(tactic| simp only [start1, tMethP, tG1, rSetOfS, tDisp, tPairs, rSInK, tAug, ipI, rSortedDS, rInD, rSetXc, rSortedX, tUpd, wipe, isR, isBool, isInt, isStr, isLst, isTup, tAsg, gName, gSub, tVar, tC, tOp, tUn, tTest, tIfS, tRet, tRetN, tDrop, tB, tAnd, tOr, tNot, tAndV, tOrV, tNotV, tIf, tCB, tCons, tNil, tNext, tCall, tBM, tTup, tLst, rU, rInW, rNinW, Int.reduceNeg, tG, tG2, sP, tFldC, sFldC, tProp, tMeth, tMake, rOwnC, rLenO, rIsC, rNoT, tAddT, tSAddK, rSAddK, rSInK, rSet0K, rSet0T, rMinS, rMaxS, rSortedQ, rSortedT, rEqD, rNeD, rIxD, dcL_eq, dcZ_eq, lcO_eq, forE_eq, forT_eq, lcS_eq, ItX.rIterN, iOwn, List.append_nil, tDisp, tPairs, tCallS, tCallSD, tCallT, StX.tStar, tCallK, tCallKS, rTupOf, tDrop, rI0, rI, rEq, rNe, scal, forR_eq, forR2_eq, forS_eq, forL_eq, lcT_eq, lcRT_eq, lcS_eq, rLenX, rLenS, rListOf, tRevL, rMulS, rRepL, rCatL, rSumN, rMaxN, tBM0, rPop, tAug, ipI,  tPart, tNoPart, CwR.tReplC, rAllK, rInSg, rNinSg, sgn_inj, rAddS, rInSt, tChain, tM1, tM0, rSplitN, rJoinN, exists_eq, rIntI, rIntB, rIntS, rStrI, rAbs, rOrd, rMin, rMax, rIxL, rIxX, rSetL, rAppend, rIxS, rSlS, rSlL, tSl, List.map_cons, List.map_nil, List.replicate_succ, List.replicate_zero, List.length_cons, List.length_nil, Nat.reduceSub, Nat.reduceAdd, Nat.zero_add, Nat.sub_self, List.getElem?_cons_zero, List.getElem?_cons_succ, List.set_cons_zero, List.set_cons_succ, List.append_nil, List.nil_append, List.cons_append, Option.some.injEq, not_true_eq_false, reduceCtorEq, exists_eq_left', exists_eq_left, exists_eq', exists_and_left, exists_and_right, V.int.injEq, V.str.injEq, V.bl.injEq, V.ref.injEq, List.cons.injEq, and_true, true_and, and_assoc, decide_eq_true_eq, Bool.not_eq_true', decide_eq_false_iff_not, ite_true, ite_false, if_true, if_false, Bool.not_true, Bool.not_false, Bool.false_eq_true, eq_self_iff_true, reduceIte, ne_eq, Int.reduceEq, not_false_eq_true])
local macro_rules | `(tactic| walk_at "rt") => `(tactic| try walk_at "rd")
local macro_rules | `(tactic| walk_at "st") => `(tactic| (walk_at "rt"; refine r_seq ?_; walk_at "rt"))
local macro_rules | `(tactic| walk_at "hp") => `(tactic| first | assumption | exact upd_same | (rw [upd_ne (by assumption)]; walk_at "hp"))
local macro_rules | `(tactic| walk_at "ex1") => `(tactic| ((with_reducible refine Exists.intro ?w (And.intro ?hx ?_)); (case hx => first | exact sq_of (by walk_at "hp") | exact .inl (sq_of (by walk_at "hp")) | exact rfl | (show _ = some (HO.lst _); walk_at "hp"))))
local macro_rules | `(tactic| walk_at "ex") => `(tactic| repeat (first | walk_at "ex1" | walk_at "rd"))
abbrev s_joined : Stmt := topS 69
theorem sc_joined : FnScope ["ties", "group", "reached", "k", "tie", "pair"] ["ties", "group"] (defScope s_joined) := ⟨rfl, rfl, rfl, by decide +kernel, rfl, by decide +kernel, by decide +kernel⟩
theorem exit_of {T : List (Str × Str)} {g us : List Str} {g0 : Str} (h0 : g0 ∈ us) : ∀ (n : Nat) (y : Str), Rch T g g0 n y → y ∉ us → ∃ x ∈ us, ∃ y ∈ g, y ∉ us ∧ Nbr T x y
  | 0, y, h, hy => absurd (h.1 ▸ h0) hy
  | n + 1, y, ⟨hy, z, hz, hn⟩, hu => by
    by_cases c : z ∈ us
    · exact ⟨z, c, y, hy, hu, hn⟩
    · exact exit_of h0 n z hz c
def spJoin : Sp := fun vs H Q _ => ∃ (t p : Addr) (T : List (Str × Str)) (tvs : List V) (g0 : Str) (g : List Str), vs = [.ref t, .ref p] ∧ H t = some (.lst tvs) ∧ PT H T tvs ∧ T.length ≤ 60 ∧ H p = some (.lst (g.map V.str)) ∧ g.length ≤ 20 ∧ g.Nodup ∧ g[0]? = some g0 ∧ (∀ x ∈ g, Cn T g g0 x) ∧ ∀ H', Keeps H H' → Q (.bl true) H'
section
variable {P : Program} {w : World} {K : PySem.W.Frag} {mg : Str → Option Value} {base : Heap}
theorem ok_joined {f : Addr} {fd : FuncData} (B : Bi mg) (D : Dn K mg "_law_joined" s_joined ["ties", "group"] f fd) : FnOk P w K mg base CX0 1 f fd ["ties", "group"] spJoin := by
  refine D.F.ok sc_joined (fun vs H Q E h => ?_) (fun cdv A outer s H vs Q E hr h => ?_)
  · obtain ⟨t, p, T, tvs, g0, g, rfl, _⟩ := h
    rfl
  · obtain ⟨t, p, T, tvs, g0, g, rfl, ht, hpt, few, hp, g20, gnd, hg0, hcn, q⟩ := h
    refine ⟨_, (pss_cons (ps_set (i := 2) sc_joined.nd rfl (.inl rfl) (pe_lst (pa_cons (pe_ix (ix_listK (K := K)) (pv 1) pe_int (fun _ _ => rfl)) pa_nil)))
      (pss_cons (ps_for PassesOwn.never rfl (pi_range1 (by rfl) B.range (pa_cons (pe_callB (call_lenXK (K := K)) (by rfl) B.len PySem.boot_len (pa_cons (pv 1) pa_nil)) pa_nil)) (pg_name (i := 3) sc_joined.nd rfl (.inl rfl)) (pss_cons (ps_if (pt_cmpR op_eq (pe_callB (call_lenXK (K := K)) (by rfl) B.len PySem.boot_len (pa_cons (pv 2) pa_nil)) (pe_callB (call_lenXK (K := K)) (by rfl) B.len PySem.boot_len (pa_cons (pv 1) pa_nil)) (nomark _)) (pss_one (ps_ret pe_bl)) pss_nil)
      (pss_one (ps_for PassesOwn.never rfl (pi_listK (K := K) (pe_op op_catL (pv 0) (pe_lc (own := [("pair", 5)]) (g := gName 5) (tt := tYes) (by rfl) sc_joined.nd (pi_listK (K := K) (pv 0)) (blkOk_by (own := [("pair", 5)]) (N := ["ties", "group", "reached", "k", "tie", "pair"]) (sc := defScope s_joined) (by decide +kernel)) (fun _ _ _ _ _ => pg_name (i := 5) sc_joined.nd rfl (Or.inl rfl)) (fun _ _ _ _ _ => pts_nil) (fun _ _ _ _ _ => (pe_tup (pa_cons (pe_ix (ix_sxK (K := K)) (pv 5) pe_int (fun _ _ => rfl)) (pa_cons (pe_ix (ix_sxK (K := K)) (pv 5) pe_int (fun _ _ => rfl)) pa_nil))))))) (pg_name (i := 4) sc_joined.nd rfl (.inl rfl)) (pss_one (ps_if (PW.pt (pw_and (pt_cmpR (op_inW (K := K)) (pe_ix (ix_sxK (K := K)) (pv 4) pe_int (fun _ _ => rfl)) (pv 2) (by rfl)) (pw_and (pt_cmpR (op_inW (K := K)) (pe_ix (ix_sxK (K := K)) (pv 4) pe_int (fun _ _ => rfl)) (pv 1) (by rfl)) (pw_and1 (pt_cmpR (op_ninW (K := K)) (pe_ix (ix_sxK (K := K)) (pv 4) pe_int (fun _ _ => rfl)) (pv 2) (by rfl)))))) (pss_one (ps_expr (pe_bm PySem.F.plainAttrs_list PySem.F.slot_list_append PySem.F.type_list_append mt_append (pv 2) (pa_cons (pe_ix (ix_sxK (K := K)) (pv 4) pe_int (fun _ _ => rfl)) pa_nil)))) pss_nil))))))
      (pss_one (ps_ret (pe_cmpR op_eq (pe_callB (call_lenXK (K := K)) (by rfl) B.len PySem.boot_len (pa_cons (pv 2) pa_nil)) (pe_callB (call_lenXK (K := K)) (by rfl) B.len PySem.boot_len (pa_cons (pv 1) pa_nil)) (nomark _)))))), ?_⟩
    walk_at "st"
    have at0 : atI (g.map V.str) 0 = some (.str g0) := atI_nat (j := 0) (by rw [List.getElem?_map, hg0]; rfl)
    refine ⟨_, sq_of hp, _, at0, Nat.le_of_ble_eq_true rfl, fun ro nro => ?_⟩
    have k0 : Keeps H (L2.upd H ro (.lst [.str g0])) := Keeps.new nro
    have hro : L2.upd H ro (.lst [.str g0]) ro = some (.lst [.str g0]) := upd_same
    generalize L2.upd H ro (.lst [.str g0]) = H1 at *
    walk_at "st"
    refine ⟨_, .inl (sq_of (k0 _ _ hp)), by rw [List.length_map]; omega, by rw [List.length_map]; omega, ?_⟩
    have g0g : g0 ∈ g := List.mem_of_getElem? hg0
    refine r_range (fun i σ H' => (∃ x3 x4 x5, σ = [some (.ref t), some (.ref p), some (.ref ro), x3, x4, x5]) ∧ Keeps H H' ∧ ∃ us : List Str, H' ro = some (.lst (us.map V.str)) ∧ i + 1 ≤ us.length ∧ us.Nodup ∧ g0 ∈ us ∧ ∀ y ∈ us, y ∈ g)
      ⟨⟨_, _, _, rfl⟩, k0, [g0], hro, Nat.le_refl _, by simp, List.mem_cons_self, fun y hy => by rw [List.mem_singleton.mp hy]; exact g0g⟩ ?_ ?_
    · rintro i σ H2 hi ⟨⟨x3, x4, x5, rfl⟩, k2, us, hu2, hul, und, hgu, hug⟩ N kk
      have ug := nd_len us g und hug
      walk_at "st"
      refine ⟨_, .inl (sq_of hu2), _, .inl (sq_of (k2 _ _ hp)), ite2 (fun _ => ?_) (fun hne => ?_)⟩
      · walk_at "rt"
        exact q H2 k2
      have lt : us.length < g.length := by
        rw [List.length_map, List.length_map] at hne
        omega
      refine ⟨⟨_, sq_of (k2 _ _ ht)⟩, fun sd nsd => swap_lc (k2 _ _ ht) (hpt.keeps k2) few nsd fun H3 ys k3 hsd hsw => ?_⟩
      have k23 := k2.trans k3
      have l2 : ys.length ≤ 60 := by rw [hsw.1, List.length_map]; exact few
      refine ⟨tvs, k23 _ _ ht, ys, hsd, Nat.le_of_lt (size_ok (by rw [hpt.1]; omega)), fun cl ncl => ?_⟩
      have hPT : PT (L2.upd H3 cl (.lst (tvs ++ ys))) (T ++ T.map swp) (tvs ++ ys) := PT.app (hpt.keeps (k23.trans (Keeps.new ncl))) (hsw.keeps (Keeps.new ncl))
      have k4 := k23.trans (Keeps.new (x := .lst (tvs ++ ys)) ncl)
      have hcl : L2.upd H3 cl (.lst (tvs ++ ys)) cl = some (.lst (tvs ++ ys)) := upd_same
      have hu4 : L2.upd H3 cl (.lst (tvs ++ ys)) ro = some (.lst (us.map V.str)) := (Keeps.new ncl) _ _ (k3 _ _ hu2)
      have rcl : ro ≠ cl := ne_of_none (k3 _ _ hu2) ncl
      generalize L2.upd H3 cl (.lst (tvs ++ ys)) = H4 at *
      generalize tvs ++ ys = cvs at *
      refine ⟨⟨_, sq_of hcl⟩, ?_⟩
      refine r_list cvs (fun j σ H' => (∃ x4 x5, σ = [some (.ref t), some (.ref p), some (.ref ro), some (.int (0 + (i : Int))), x4, x5]) ∧ Keeps H H' ∧ H' cl = some (.lst cvs) ∧ PT H' (T ++ T.map swp) cvs ∧ ∃ us' : List Str, H' ro = some (.lst (us'.map V.str)) ∧ us'.Nodup ∧ (∀ y ∈ us, y ∈ us') ∧ (∀ y ∈ us', y ∈ g) ∧ ∀ x y, (x, y) ∈ (T ++ T.map swp).take j → x ∈ us → y ∈ g → y ∈ us')
        ⟨⟨_, _, rfl⟩, k4, hcl, hPT, us, hu4, und, fun _ h => h, hug, fun x y h => (by rw [List.take_zero] at h; cases h)⟩ (fun j σ H' _ h => sq_of h.2.2.1) ?_ ?_
      · rintro j v σ H5 hv ⟨⟨x4, x5, rfl⟩, k5, hcl5, hPT5, us', hu5, und5, hsub, hug5, hall⟩ N2 kk2
        have hj : j < (T ++ T.map swp).length := by have := lt_of_get hv; have := hPT5.1; omega
        have he := List.getElem?_eq_getElem hj
        generalize (T ++ T.map swp)[j] = e0 at he
        obtain ⟨u, rfl, hu⟩ := hPT5.2 j _ v he hv
        have tt : SqL K H5 u [.str e0.1, .str e0.2] ∨ SqT K H5 u [.str e0.1, .str e0.2] := .inr (tup_at hu)
        have ug5 := nd_len us' g und5 hug5
        have next : ∀ us'' : List Str, (∀ y ∈ us', y ∈ us'') → (e0.1 ∈ us' → e0.2 ∈ g → e0.2 ∈ us'') → ∀ x y, (x, y) ∈ (T ++ T.map swp).take (j + 1) → x ∈ us → y ∈ g → y ∈ us'' := fun us'' h1 h2 x y h hx hy => by
          rw [take_snoc he] at h
          rcases List.mem_append.mp h with h | h
          · exact h1 y (hall x y h hx hy)
          · have e := List.mem_singleton.mp h
            rw [← e] at h2
            exact h2 (hsub x hx) hy
        have stay : (e0.1 ∈ us' → e0.2 ∈ g → e0.2 ∈ us') → N2 [some (.ref t), some (.ref p), some (.ref ro), some (.int (0 + (i : Int))), some (.ref u), x5] H5 := fun hn => kk2 _ _ ⟨⟨_, _, rfl⟩, k5, hcl5, hPT5, us', hu5, und5, hsub, hug5, next us' (fun _ h => h) hn⟩
        walk_at "rt"
        refine ⟨_, tt, _, rfl, _, rfl, us', .inl (sq_of hu5), ite2 (fun h1 => ?_) (fun h1 => stay fun z => absurd z h1)⟩
        refine ⟨_, tt, _, rfl, _, rfl, g, .inl (sq_of (k5 _ _ hp)), ite2 (fun h2 => ?_) (fun h2 => stay fun _ z => absurd z h2)⟩
        refine ⟨_, tt, _, rfl, _, rfl, us', .inl (sq_of hu5), ite2 (fun h3 => ?_) (fun h3 => stay fun _ _ => by simpa using h3)⟩
        refine ⟨.inl ⟨rfl, _, sq_of hu5⟩, _, tt, _, rfl, _, hu5, size_ok (by rw [List.length_map]; omega), kk2 _ _ ⟨⟨_, _, rfl⟩, k5.put nro, (upd_ne rcl.symm).trans hcl5, hPT5.upd hu5 (fun xs z => by cases z), us' ++ [e0.2], upd_same.trans (by rw [List.map_append]; rfl), ?_, fun y hy => List.mem_append_left _ (hsub y hy), fun y hy => ?_, next _ (fun y hy => List.mem_append_left _ hy) fun _ _ => List.mem_append_right _ List.mem_cons_self⟩⟩
        · refine List.nodup_append.mpr ⟨und5, by simp, fun a ha b hb e => ?_⟩
          rw [List.mem_singleton.mp hb] at e
          exact h3 (e ▸ ha)
        · rcases List.mem_append.mp hy with hy | hy
          · exact hug5 y hy
          · rw [List.mem_singleton.mp hy]
            exact h2
      · rintro σ H5 ⟨⟨x4, x5, rfl⟩, k5, hcl5, hPT5, us', hu5, und5, hsub, hug5, hall⟩
        rw [hPT5.1, List.take_length] at hall
        have ⟨y0, hy0, hn0⟩ : ∃ y ∈ g, y ∉ us := by
          apply Classical.byContradiction
          intro z
          have := nd_len g us gnd fun y hy => by
            apply Classical.byContradiction
            intro h
            exact z ⟨y, hy, h⟩
          omega
        obtain ⟨n, hr0⟩ := hcn y0 hy0
        obtain ⟨a, ha, b, hb, hbn, hab⟩ := exit_of hgu n y0 hr0 hn0
        have hbu := hall a b (nbr_two.mpr hab) ha hb
        have l := nd_len (b :: us) us' (List.nodup_cons.mpr ⟨hbn, und⟩) fun y hy => by
          rcases List.mem_cons.mp hy with rfl | hy
          · exact hbu
          · exact hsub y hy
        rw [List.length_cons] at l
        exact kk _ _ ⟨⟨_, _, _, rfl⟩, k5, us', hu5, by omega, und5, hsub _ hgu, hug5⟩
    · rintro σ H2 ⟨⟨x3, x4, x5, rfl⟩, k2, us, hu2, hul, und, hgu, hug⟩
      have ug := nd_len us g und hug
      rw [List.length_map] at hul
      omega
end
end K01
namespace K01
open PySem PySem.Spec PyProof.Rows L2 TL HotExc L2H HotLc Tw WX
local macro_rules | `(tactic| walk_at "rd") => `(tactic| simp only [start1, tMethP, tG1, rSetOfS, tDisp, tPairs, rSInK, tAug, ipI, rSortedDS, rInD, rSetXc, rSortedX, tUpd, wipe, isR, isBool, isInt, isStr, isLst, isTup, tAsg, gName, gSub, tVar, tC, tOp, tUn, tTest, tIfS, tRet, tRetN, tDrop, tB, tAnd, tOr, tNot, tAndV, tOrV, tNotV, tIf, tCB, tCons, tNil, tNext, tCall, tBM, tTup, tLst, rU, rInW, rNinW, Int.reduceNeg, tG, tG2, sP, tFldC, sFldC, tProp, tMeth, tMake, rOwnC, rLenO, rIsC, rNoT, tAddT, tSAddK, rSAddK, rSInK, rSet0K, rSet0T, rMinS, rMaxS, rSortedQ, rSortedT, rEqD, rNeD, rIxD, dcL_eq, dcZ_eq, lcO_eq, forE_eq, forT_eq, lcS_eq, ItX.rIterN, iOwn, List.append_nil, tDisp, tPairs, tCallS, tCallSD, tCallT, StX.tStar, tCallK, tCallKS, rTupOf, tDrop, rI0, rI, rEq, rNe, scal, forR_eq, forR2_eq, forS_eq, forL_eq, lcT_eq, lcRT_eq, lcS_eq, rLenX, rLenS, rListOf, tRevL, rMulS, rRepL, rCatL, rSumN, rMaxN, tBM0, rPop, tAug, ipI,  tPart, tNoPart, CwR.tReplC, rAllK, rInSg, rNinSg, sgn_inj, rAddS, rInSt, tChain, tM1, tM0, rSplitN, rJoinN, exists_eq, rIntI, rIntB, rIntS, rStrI, rAbs, rOrd, rMin, rMax, rIxL, rIxX, rSetL, rAppend, rIxS, rSlS, rSlL, tSl, List.map_cons, List.map_nil, List.replicate_succ, List.replicate_zero, List.length_cons, List.length_nil, Nat.reduceSub, Nat.reduceAdd, Nat.zero_add, Nat.sub_self, List.getElem?_cons_zero, List.getElem?_cons_succ, List.set_cons_zero, List.set_cons_succ, List.append_nil, List.nil_append, List.cons_append, Option.some.injEq, not_true_eq_false, reduceCtorEq, exists_eq_left', exists_eq_left, exists_eq', exists_and_left, exists_and_right, V.int.injEq, V.str.injEq, V.bl.injEq, V.ref.injEq, List.cons.injEq, and_true, true_and, and_assoc, decide_eq_true_eq, Bool.not_eq_true', decide_eq_false_iff_not, ite_true, ite_false, if_true, if_false, Bool.not_true, Bool.not_false, Bool.false_eq_true, eq_self_iff_true, reduceIte, ne_eq, Int.reduceEq, not_false_eq_true])
local macro_rules | `(tactic| walk_at "rt") => `(tactic| try walk_at "rd")
local macro_rules | `(tactic| walk_at "st") => `(tactic| (walk_at "rt"; refine r_seq ?_; walk_at "rt"))
local macro_rules | `(tactic| walk_at "hp") => `(tactic| first | assumption | exact upd_same | (rw [upd_ne (by assumption)]; walk_at "hp"))
local macro_rules | `(tactic| walk_at "ex1") => `(tactic| ((with_reducible refine Exists.intro ?w (And.intro ?hx ?_)); (case hx => first | exact sq_of (by walk_at "hp") | exact .inl (sq_of (by walk_at "hp")) | exact rfl | (show _ = some (HO.lst _); walk_at "hp"))))
local macro_rules | `(tactic| walk_at "ex") => `(tactic| repeat (first | walk_at "ex1" | walk_at "rd"))
abbrev s_partsright : Stmt := topS 70
theorem sc_partsright : FnScope ["web", "within", "told", "where", "k", "place", "tie"] ["web", "within", "told"] (defScope s_partsright) := ⟨rfl, rfl, rfl, by decide +kernel, rfl, by decide +kernel, by decide +kernel⟩
theorem Lst.one {T : List (Str × Str)} {W zs : List Str} (h : Lst T W zs) {m n : Nat} {a b : Str} (ha : zs[m]? = some a) (hb : zs[n]? = some b) (hc : Cn T W a b) : m = n := by
  obtain ⟨h1, e1⟩ := List.getElem?_eq_some_iff.mp ha
  obtain ⟨h2, e2⟩ := List.getElem?_eq_some_iff.mp hb
  rcases Nat.lt_trichotomy m n with g | g | g
  · have := List.pairwise_iff_getElem.mp h.apart m n h1 h2 g
    rw [e1, e2] at this
    exact absurd hc this
  · exact g
  · have := List.pairwise_iff_getElem.mp h.apart n m h2 h1 g
    rw [e1, e2] at this
    exact absurd hc.symm this
theorem Lst.nd {T : List (Str × Str)} {W zs : List Str} (h : Lst T W zs) : zs.Nodup := List.Pairwise.imp (fun {a b} (g : ltS a b) => (fun e : a = b => by subst e; exact ltS_irr g)) h.asc
theorem atl_rows {H : Hp} : ∀ {as : List Addr} {Ls : List (List Str)}, as.length = Ls.length → (∀ (i : Nat) a l, as[i]? = some a → Ls[i]? = some l → H a = some (.lst (l.map V.str)) ∧ l.length ≤ 1000) → AtL H All (Ls.map dStrs) (as.map V.ref)
  | [], [], _, _ => rfl
  | a :: as, l :: Ls, e, h => by
    obtain ⟨h1, h2⟩ := h 0 a l rfl rfl
    exact atl_cons (at_strs h1 (by omega)) (atl_rows (Nat.succ.inj e) fun i a l g1 g2 => h (i + 1) a l g1 g2)
theorem rch_grp {Ps : List Str} {T : List (Str × Str)} {W : List Str} {z : Str} (hW : ∀ y ∈ W, y ∈ Ps) : ∀ {n : Nat} {x : Str}, Rch T W z n x → Rch T (grp Ps T W z) z n x
  | 0, x, ⟨e, h⟩ => ⟨e, mem_grp.mpr ⟨hW z h, Cn.refl h⟩⟩
  | n + 1, x, ⟨hx, y, hy, hn⟩ => ⟨mem_grp.mpr ⟨hW x hx, ⟨n + 1, hx, y, hy, hn⟩⟩, y, rch_grp hW hy, hn⟩
theorem grp_asc {Ps : List Str} {T : List (Str × Str)} {W : List Str} {s : Str} (hs : sortS Ps = Ps) (nP : Ps.Nodup) : (grp Ps T W s).Pairwise ltS := by
  have h1 := grp_pw (T := T) (W := W) (s := s) hs
  have h2 : (grp Ps T W s).Pairwise (· ≠ ·) := grp_nd nP
  exact (h1.and h2).imp fun h => ltS_of h.1 h.2
def spPR : Sp := fun vs H Q _ => ∃ (r p q : Addr) (Ps : List Str) (T : List (Str × Str)) (W zs : List Str) (as : List Addr), vs = [.ref r, .ref p, .ref q] ∧ LW H r Ps T ∧ Wok Ps T ∧ H p = some (.lst (W.map V.str)) ∧ W.length ≤ 100 ∧ (∀ y ∈ W, y ∈ Ps) ∧ Lst T W zs ∧ RowsL H q (zs.map (grp Ps T W)) as ∧ ∀ H', Keeps H H' → Q (.bl true) H'
section
variable {P : Program} {w : World} {K : PySem.W.Frag} {mg : Str → Option Value} {base : Heap}
theorem ok_partsright {f f_ascending f_joined : Addr} {fd fd_ascending fd_joined : FuncData} (B : Bi mg) (D : Dn K mg "_law_parts_right" s_partsright ["web", "within", "told"] f fd) (D_ascending : Dn K mg "_law_ascending" s_ascending ["row"] f_ascending fd_ascending) (D_joined : Dn K mg "_law_joined" s_joined ["ties", "group"] f_joined fd_joined)
    (G_ascending : FnOk P w K mg base CX0 1 f_ascending fd_ascending ["row"] spAsc) (G_joined : FnOk P w K mg base CX0 1 f_joined fd_joined ["ties", "group"] spJoin) : FnOk P w K mg base CX0 2 f fd ["web", "within", "told"] spPR := by
  refine D.F.ok sc_partsright (fun vs H Q E h => ?_) (fun cdv A outer s H vs Q E hr h => ?_)
  · obtain ⟨r, p, q, Ps, T, W, zs, as, rfl, _⟩ := h
    rfl
  · obtain ⟨r, p, q, Ps, T, W, zs, as, rfl, ⟨pa, ta, ⟨nd, hr0, hnd⟩, hpa, tvs, hta, htt⟩, wok, hp, few, hin, hL, hR, fin⟩ := h
    refine ⟨_, (pss_cons (ps_if (pt_not (pt_val (pe_callB call_is_list (by rfl) B.isinstance (by decide +kernel) (pa_cons (pv 2) (pa_cons (pe_bltn (v := .ty "list") (by rfl) B.list_ (by decide +kernel) rfl) pa_nil))))) (pss_one (ps_ret pe_bl)) pss_nil)
      (pss_cons (ps_set (i := 3) sc_partsright.nd rfl (.inl rfl) pe_dnewK)
      (pss_cons (ps_for PassesOwn.never rfl (pi_range1 (by rfl) B.range (pa_cons (pe_callB (call_lenXK (K := K)) (by rfl) B.len PySem.boot_len (pa_cons (pv 2) pa_nil)) pa_nil)) (pg_name (i := 4) sc_partsright.nd rfl (.inl rfl)) (pss_cons (ps_if (PW.pt (pw_or (pt_not (pt_val (pe_callB call_is_list (by rfl) B.isinstance (by decide +kernel) (pa_cons (pe_ix (ix_listK (K := K)) (pv 2) (pv 4) (fun _ _ => rfl)) (pa_cons (pe_bltn (v := .ty "list") (by rfl) B.list_ (by decide +kernel) rfl) pa_nil))))) (pw_or1 (pt_cmpR op_eq (pe_callB (call_lenXK (K := K)) (by rfl) B.len PySem.boot_len (pa_cons (pe_ix (ix_listK (K := K)) (pv 2) (pv 4) (fun _ _ => rfl)) pa_nil)) pe_int (nomark _))))) (pss_one (ps_ret pe_bl)) pss_nil)
      (pss_cons (ps_for PassesOwn.never rfl (pi_listK (K := K) (pe_ix (ix_listK (K := K)) (pv 2) (pv 4) (fun _ _ => rfl))) (pg_name (i := 5) sc_partsright.nd rfl (.inl rfl)) (pss_cons (ps_if (PW.pt (pw_or (pt_not (pt_val (pe_callB call_is_str (by rfl) B.isinstance (by decide +kernel) (pa_cons (pv 5) (pa_cons (pe_bltn (v := .ty "str") (by rfl) B.str_ (by decide +kernel) rfl) pa_nil))))) (pw_or (pt_cmpR (op_ninW (K := K)) (pv 5) (pv 1) (by rfl)) (pw_or1 (pt_cmp (pc_din (hu_of hr) (pv 5) (pv 3))))))) (pss_one (ps_ret pe_bl)) pss_nil)
      (pss_one (ps_pS (hu_of hr) (pv 3) (pv 5) (pv 4) rfl))))
      (pss_cons (ps_if (PW.pt (pw_or (pt_not (pt_val (pe_call G_ascending (hr.mono (by omega)) (by rfl) D_ascending.g D_ascending.F.kp D_ascending.b .nil pass0 (pa_cons (pe_ix (ix_listK (K := K)) (pv 2) (pv 4) (fun _ _ => rfl)) pa_nil)))) (pw_or1 (pt_not (pt_val (pe_call G_joined (hr.mono (by omega)) (by rfl) D_joined.g D_joined.F.kp D_joined.b .nil pass0 (pa_cons (pe_ix (ix_sxK (K := K)) (pv 0) pe_int (fun _ _ => rfl)) (pa_cons (pe_ix (ix_listK (K := K)) (pv 2) (pv 4) (fun _ _ => rfl)) pa_nil)))))))) (pss_one (ps_ret pe_bl)) pss_nil)
      (pss_one (ps_if (PW.pt (pw_and (pt_cmpR op_gt (pv 4) pe_int (nomark _)) (pw_and1 (pt_not (pt_cmpR op_lt_str (pe_ix (ix_listK (K := K)) (pe_ix (ix_listK (K := K)) (pv 2) (pe_op op_sub (pv 4) pe_int) (fun _ _ => rfl)) pe_int (fun _ _ => rfl)) (pe_ix (ix_listK (K := K)) (pe_ix (ix_listK (K := K)) (pv 2) (pv 4) (fun _ _ => rfl)) pe_int (fun _ _ => rfl)) (nomark _)))))) (pss_one (ps_ret pe_bl)) pss_nil))))))
      (pss_cons (ps_for PassesOwn.never rfl (pi_listK (K := K) (pv 1)) (pg_name (i := 5) sc_partsright.nd rfl (.inl rfl)) (pss_one (ps_if (pt_cmp (pc_dnotin (hu_of hr) (pv 5) (pv 3))) (pss_one (ps_ret pe_bl)) pss_nil)))
      (pss_cons (ps_for PassesOwn.never rfl (pi_listK (K := K) (pe_ix (ix_sxK (K := K)) (pv 0) pe_int (fun _ _ => rfl))) (pg_name (i := 6) sc_partsright.nd rfl (.inl rfl)) (pss_one (ps_if (PW.pt (pw_and (pt_cmp (pc_din (hu_of hr) (pe_ix (ix_sxK (K := K)) (pv 6) pe_int (fun _ _ => rfl)) (pv 3))) (pw_and (pt_cmp (pc_din (hu_of hr) (pe_ix (ix_sxK (K := K)) (pv 6) pe_int (fun _ _ => rfl)) (pv 3))) (pw_and1 (pt_cmpR op_ne (pe_gS (hu_of hr) (pv 3) (pe_ix (ix_sxK (K := K)) (pv 6) pe_int (fun _ _ => rfl)) (fun _ _ => rfl)) (pe_gS (hu_of hr) (pv 3) (pe_ix (ix_sxK (K := K)) (pv 6) pe_int (fun _ _ => rfl)) (fun _ _ => rfl)) (nomark _)))))) (pss_one (ps_ret pe_bl)) pss_nil)))
      (pss_one (ps_ret pe_bl))))))), ?_⟩
    have F := wok.fit
    have h20 := F.p20
    have h60 := F.e60
    have zl : zs.length ≤ 20 := Nat.le_trans (nd_len zs Ps hL.nd fun z hz => hin z (hL.mem z hz)) h20
    have web : ∀ H', Keeps H H' → SqL K H' r [.ref pa, .ref ta, .ref nd] ∨ SqT K H' r [.ref pa, .ref ta, .ref nd] := fun H' k => .inr (tup_at (k _ _ hr0))
    have gl : ∀ z, (grp Ps T W z).length ≤ 20 := fun z => Nat.le_trans grp_len h20
    have hasl : as.length = zs.length := by rw [hR.len, List.length_map]
    walk_at "st"
    refine ⟨All, .lst ((zs.map (grp Ps T W)).map dStrs), at_lst hR.top (by rw [List.length_map, hasl]; omega) (atl_rows hR.len fun i a l h1 h2 => ⟨hR.row i a l h1 h2, ?_⟩), ?_⟩
    · obtain ⟨z, _, rfl⟩ := List.mem_map.mp (List.mem_of_getElem? h2)
      have := gl z
      omega
    simp only [Bool.true_eq_false, if_false]
    walk_at "st"
    intro sd nsd
    have k0 : Keeps H (L2.upd H sd (.dK [])) := Keeps.new nsd
    have hd0 : L2.upd H sd (.dK []) sd = some (.dK []) := upd_same
    generalize L2.upd H sd (.dK []) = H0 at *
    walk_at "st"
    refine ⟨_, .inl (sq_of (k0 _ _ hR.top)), by rw [List.length_map, hasl]; omega, by rw [List.length_map, hasl]; omega, ?_⟩
    refine r_range (fun i σ H' => (∃ x4 x5, σ = [some (.ref r), some (.ref p), some (.ref q), some (.ref sd), x4, x5, none]) ∧ Keeps H H' ∧ ∃ kvs d, H' sd = some (.dK kvs) ∧ kvs.length ≤ 20 * i ∧ TabD kvs d ∧ ∀ x m, d x = some m ↔ m < i ∧ ∃ z, zs[m]? = some z ∧ Cn T W z x)
      ⟨⟨_, _, rfl⟩, k0, [], (fun _ => none), hd0, Nat.zero_le _, fun x => rfl, fun x m => ⟨fun h => (by cases h), fun h => absurd h.1 (Nat.not_lt_zero _)⟩⟩ ?_ ?_
    · rintro i σ H1 hi ⟨⟨x4, x5, rfl⟩, k1, kvs, d, hd, hkl, hT, hdm⟩ N kk
      rw [List.length_map, hasl] at hi
      have hi : i < zs.length := by omega
      have hzi := List.getElem?_eq_getElem hi
      have hai := List.getElem?_eq_getElem (hasl ▸ hi : i < as.length)
      generalize zs[i] = z at hzi
      generalize as[i] = a at hai
      have hgi : (zs.map (grp Ps T W))[i]? = some (grp Ps T W z) := by rw [List.getElem?_map, hzi]; rfl
      have hrow := hR.row i a _ hai hgi
      have hzW := hL.mem z (List.mem_of_getElem? hzi)
      obtain ⟨tl, htl⟩ := grp_head wok.ps hin hzW (hL.least z (List.mem_of_getElem? hzi))
      have at1 : atI (as.map V.ref) (0 + (i : Int)) = some (.ref a) := by
        rw [Int.zero_add]
        exact atI_nat (by rw [List.getElem?_map, hai]; rfl)
      have glz := gl z
      walk_at "st"
      refine ⟨_, sq_of (k1 _ _ hR.top), _, at1, All, dStrs (grp Ps T W z), at_strs (k1 _ _ hrow) (by omega), ?_⟩
      simp only [dStrs, Bool.true_eq_false, if_false]
      refine ⟨_, sq_of (k1 _ _ hR.top), _, at1, a, rfl, _, .inl (sq_of (k1 _ _ hrow)), ite2 (fun h => ?_) (fun _ => ?_)⟩
      · rw [List.length_map, htl, List.length_cons] at h
        omega
      walk_at "st"
      refine ⟨_, sq_of (k1 _ _ hR.top), _, at1, a, rfl, ⟨_, sq_of (k1 _ _ hrow)⟩, ?_⟩
      refine r_list ((grp Ps T W z).map V.str) (fun j σ H' => (∃ x5, σ = [some (.ref r), some (.ref p), some (.ref q), some (.ref sd), some (.int (0 + (i : Int))), x5, none]) ∧ Keeps H H' ∧ ∃ kvs d, H' sd = some (.dK kvs) ∧ kvs.length ≤ 20 * i + j ∧ TabD kvs d ∧ ∀ x m, d x = some m ↔ (m < i ∧ ∃ z', zs[m]? = some z' ∧ Cn T W z' x) ∨ (m = i ∧ x ∈ (grp Ps T W z).take j))
        ⟨⟨_, rfl⟩, k1, kvs, d, hd, by omega, hT, fun x m => by rw [hdm x m, List.take_zero]; simp⟩ (fun j σ H' _ h => sq_of (h.2.1 _ _ hrow)) ?_ ?_
      · rintro j v σ H2 hv ⟨⟨x5, rfl⟩, k2, kvs, d, hd, hkl, hT, hdm⟩ N2 kk2
        obtain ⟨y, hy, rfl⟩ := get_map hv
        have hj := lt_of_get hy
        have hcy : Cn T W z y := (mem_grp.mp (List.mem_of_getElem? hy)).2
        have hyW : y ∈ W := hcy.memR
        have hdy : d y = none := by
          cases e : d y with
          | none => rfl
          | some m =>
            rcases (hdm y m).mp e with ⟨g1, z', g2, g3⟩ | ⟨_, g2⟩
            · have := hL.one g2 hzi (g3.trans hcy.symm)
              omega
            · have nd := grp_nd (T := T) (W := W) (s := z) F.pnd
              rw [← List.take_append_drop j (grp Ps T W z)] at nd
              have hyd : y ∈ (grp Ps T W z).drop j := by
                rw [List.drop_eq_getElem_cons hj]
                rw [List.getElem?_eq_getElem hj] at hy
                cases hy
                exact List.mem_cons_self
              exact absurd rfl ((List.nodup_append.mp nd).2.2 y g2 y hyd)
        unfold tDIn
        walk_at "st"
        refine ⟨All, .str y, rfl, ?_⟩
        simp only [Bool.true_eq_false, if_false]
        refine ⟨W, .inl (sq_of (k2 _ _ hp)), ite2 (fun h => absurd hyW h) (fun _ => ⟨_, DGet.k (k := Sum.inr y) hd, ?_⟩)⟩
        rw [hT y, hdy]
        simp only [Option.map_none, Option.isSome_none, Bool.false_eq_true, if_false]
        have hlp := length_putK kvs (Sum.inr y) (.int (0 + (i : Int)))
        refine ⟨kvs, hd, size_ok (by omega), kk2 _ _ ⟨⟨_, rfl⟩, k2.put nsd, _, setD d y i, upd_same, by omega, by rw [Int.zero_add]; exact hT.put y i, fun x m => ?_⟩⟩
        rw [take_snoc hy, List.mem_append, List.mem_singleton]
        by_cases e : x = y
        · subst e
          rw [setD_eq]
          constructor
          · intro h
            cases h
            exact .inr ⟨rfl, .inr rfl⟩
          · rintro (⟨g1, z', g2, g3⟩ | ⟨g1, _⟩)
            · have := (hdm x m).mpr (.inl ⟨g1, z', g2, g3⟩)
              rw [hdy] at this
              cases this
            · rw [g1]
        · rw [setD_ne e, hdm x m]
          simp [e]
      · rintro σ H2 ⟨⟨x5, rfl⟩, k2, kvs, d, hd, hkl, hT, hdm⟩
        rw [List.length_map, List.take_length] at hdm
        rw [List.length_map] at hkl
        walk_at "st"
        have k12 := k2
        refine ⟨_, sq_of (k2 _ _ hR.top), _, at1, a, _, rfl, k2 _ _ hrow, by omega, grp_asc wok.ps F.pnd, true, rfl, ?_⟩
        simp only [Bool.true_eq_false, if_false]
        refine ⟨_, web _ k2, _, rfl, _, sq_of (k2 _ _ hR.top), _, at1, ta, a, T, tvs, z, _, rfl, k2 _ _ hta, htt.keeps k2, h60, k2 _ _ hrow, glz, grp_nd F.pnd, by rw [htl]; rfl, fun x hx => ?_, fun H3 k3 => ⟨true, rfl, ?_⟩⟩
        · obtain ⟨n, g⟩ := (mem_grp.mp hx).2
          exact ⟨n, rch_grp hin g⟩
        simp only [Bool.true_eq_false, if_false]
        have k23 := k2.trans k3
        have cont : N [some (.ref r), some (.ref p), some (.ref q), some (.ref sd), some (.int (0 + (i : Int))), x5, none] H3 := kk _ _ ⟨⟨_, _, rfl⟩, k23, kvs, d, k3 _ _ hd, by omega, hT, fun x m => by
          rw [hdm x m]
          constructor
          · rintro (⟨g1, g2⟩ | ⟨rfl, g2⟩)
            · exact ⟨by omega, g2⟩
            · exact ⟨by omega, z, hzi, (mem_grp.mp g2).2⟩
          · rintro ⟨g1, z', g2, g3⟩
            rcases Nat.lt_or_ge m i with g | g
            · exact .inl ⟨g, z', g2, g3⟩
            · obtain rfl : m = i := by omega
              rw [hzi] at g2
              cases g2
              exact .inr ⟨rfl, mem_grp.mpr ⟨hin x g3.memR, g3⟩⟩⟩
        have head0 : ∀ z tl, grp Ps T W z = z :: tl → atI ((grp Ps T W z).map V.str) 0 = some (.str z) := fun z tl e => by rw [e]; exact atI_nat (j := 0) rfl
        refine ite2 (fun h => ?_) (fun _ => cont)
        obtain ⟨i', rfl⟩ : ∃ i', i = i' + 1 := ⟨i - 1, by omega⟩
        have hi' : i' < zs.length := by omega
        have hzp := List.getElem?_eq_getElem hi'
        have hap := List.getElem?_eq_getElem (hasl ▸ hi' : i' < as.length)
        generalize zs[i'] = zp at hzp
        generalize as[i'] = ap at hap
        have hgp : (zs.map (grp Ps T W))[i']? = some (grp Ps T W zp) := by rw [List.getElem?_map, hzp]; rfl
        have hrp := hR.row i' ap _ hap hgp
        obtain ⟨tlp, htlp⟩ := grp_head wok.ps hin (hL.mem zp (List.mem_of_getElem? hzp)) (hL.least zp (List.mem_of_getElem? hzp))
        have at2 : atI (as.map V.ref) (0 + ((i' + 1 : Nat) : Int) - 1) = some (.ref ap) := by
          rw [show (0 + ((i' + 1 : Nat) : Int) - 1) = (i' : Int) by omega]
          exact atI_nat (by rw [List.getElem?_map, hap]; rfl)
        exact ⟨_, sq_of (k23 _ _ hR.top), _, at2, ap, rfl, _, sq_of (k23 _ _ hrp), _, head0 zp tlp htlp, _, sq_of (k23 _ _ hR.top), _, at1, a, rfl, _, sq_of (k23 _ _ hrow), _, head0 z tl htl, zp, rfl, z, rfl, ite2 (fun hn => absurd (asc_get hL.asc hzp hzi) hn) (fun _ => cont)⟩
    · rintro σ H1 ⟨⟨x4, x5, rfl⟩, k1, kvs, d, hd, hkl, hT, hdm⟩
      rw [List.length_map, hasl] at hkl hdm
      walk_at "st"
      refine ⟨⟨_, sq_of (k1 _ _ hp)⟩, ?_⟩
      have dom : ∀ y ∈ W, ∃ m, d y = some m := fun y hy => by
        obtain ⟨z, hz, hc⟩ := hL.cov y hy
        obtain ⟨m, hm, e⟩ := List.getElem_of_mem hz
        exact ⟨m, (hdm y m).mpr ⟨hm, z, by rw [List.getElem?_eq_getElem hm, e], hc⟩⟩
      refine r_list (W.map V.str) (fun j σ H' => (∃ x5, σ = [some (.ref r), some (.ref p), some (.ref q), some (.ref sd), x4, x5, none]) ∧ H' = H1) ⟨⟨_, rfl⟩, rfl⟩ (fun j σ H' _ h => h.2 ▸ sq_of (k1 _ _ hp)) ?_ ?_
      · rintro j v σ H' hv ⟨⟨x5, rfl⟩, rfl⟩ N kk
        obtain ⟨y, hy, rfl⟩ := get_map hv
        obtain ⟨m, hm⟩ := dom y (List.mem_of_getElem? hy)
        unfold tDNotIn
        walk_at "rt"
        refine ⟨_, DGet.k (k := Sum.inr y) hd, ?_⟩
        rw [hT y, hm]
        simp only [Option.map_some, Option.isSome_some, Bool.true_eq_false, if_false]
        exact kk _ _ ⟨⟨_, rfl⟩, rfl⟩
      rintro σ H' ⟨⟨x5, rfl⟩, rfl⟩
      walk_at "st"
      refine ⟨_, web _ k1, _, rfl, ta, rfl, ⟨_, sq_of (k1 _ _ hta)⟩, ?_⟩
      refine r_list tvs (fun j σ H'' => (∃ x6, σ = [some (.ref r), some (.ref p), some (.ref q), some (.ref sd), x4, x5, x6]) ∧ H'' = H') ⟨⟨_, rfl⟩, rfl⟩ (fun j σ H'' _ h => h.2 ▸ sq_of (k1 _ _ hta)) ?_ ?_
      · rintro j v σ H'' hv ⟨⟨x6, rfl⟩, rfl⟩ N kk
        have hj : j < T.length := by have := lt_of_get hv; have := htt.1; omega
        have he := List.getElem?_eq_getElem hj
        have hem := List.getElem_mem hj
        generalize T[j] = e0 at he hem
        obtain ⟨u, rfl, hu⟩ := htt.2 j _ v he hv
        have tt : SqL K H'' u [.str e0.1, .str e0.2] ∨ SqT K H'' u [.str e0.1, .str e0.2] := .inr (tup_at (k1 _ _ hu))
        have go : N [some (.ref r), some (.ref p), some (.ref q), some (.ref sd), x4, x5, some (.ref u)] H'' := kk _ _ ⟨⟨_, rfl⟩, rfl⟩
        unfold tDIn
        walk_at "rt"
        refine ⟨_, tt, _, rfl, _, DGet.k (k := Sum.inr e0.1) hd, ?_⟩
        rw [hT e0.1]
        cases h1 : d e0.1 with
        | none =>
          simp only [Option.map_none, Option.isSome_none, Bool.false_eq_true, if_false]
          exact go
        | some m1 =>
          simp only [Option.map_some, Option.isSome_some, if_true]
          refine ⟨_, tt, _, rfl, _, DGet.k (k := Sum.inr e0.2) hd, ?_⟩
          rw [hT e0.2]
          cases h2 : d e0.2 with
          | none =>
            simp only [Option.map_none, Option.isSome_none, Bool.false_eq_true, if_false]
            exact go
          | some m2 =>
            simp only [Option.map_some, Option.isSome_some, if_true]
            obtain ⟨g1, z1, g2, g3⟩ := (hdm _ _).mp h1
            obtain ⟨g4, z2, g5, g6⟩ := (hdm _ _).mp h2
            have em : m1 = m2 := hL.one g2 g5 ((g3.trans (Cn.step g3.memR g6.memR (.inl hem))).trans g6.symm)
            subst em
            have v1 : valV kvs (Sum.inr e0.1) = some (.int (m1 : Int)) := by rw [hT, h1]; rfl
            have v2 : valV kvs (Sum.inr e0.2) = some (.int (m1 : Int)) := by rw [hT, h2]; rfl
            exact ⟨_, tt, _, rfl, _, rfl, kvs, hd, _, v1, _, tt, _, rfl, _, rfl, kvs, hd, _, v2, rfl, ite2 (fun h => absurd rfl h) (fun _ => go)⟩
      · rintro σ H'' ⟨⟨x6, rfl⟩, rfl⟩
        walk_at "rt"
        exact fin _ k1
end
end K01
namespace K01
open PySem PySem.Spec PyProof.Rows L2 TL HotExc L2H HotLc Tw WX
local macro_rules | `(tactic| walk_at "rd") => `(tactic| simp only [start1, tMethP, tG1, rSetOfS, tDisp, tPairs, rSInK, tAug, ipI, rSortedDS, rInD, rSetXc, rSortedX, tUpd, wipe, isR, isBool, isInt, isStr, isLst, isTup, tAsg, gName, gSub, tVar, tC, tOp, tUn, tTest, tIfS, tRet, tRetN, tDrop, tB, tAnd, tOr, tNot, tAndV, tOrV, tNotV, tIf, tCB, tCons, tNil, tNext, tCall, tBM, tTup, tLst, rU, rInW, rNinW, Int.reduceNeg, tG, tG2, sP, tFldC, sFldC, tProp, tMeth, tMake, rOwnC, rLenO, rIsC, rNoT, tAddT, tSAddK, rSAddK, rSInK, rSet0K, rSet0T, rMinS, rMaxS, rSortedQ, rSortedT, rEqD, rNeD, rIxD, dcL_eq, dcZ_eq, lcO_eq, forE_eq, forT_eq, lcS_eq, ItX.rIterN, iOwn, List.append_nil, tDisp, tPairs, tCallS, tCallSD, tCallT, StX.tStar, tCallK, tCallKS, rTupOf, tDrop, rI0, rI, rEq, rNe, scal, forR_eq, forR2_eq, forS_eq, forL_eq, lcT_eq, lcRT_eq, lcS_eq, rLenX, rLenS, rListOf, tRevL, rMulS, rRepL, rCatL, rSumN, rMaxN, tBM0, rPop, tAug, ipI,  tPart, tNoPart, CwR.tReplC, rAllK, rInSg, rNinSg, sgn_inj, rAddS, rInSt, tChain, tM1, tM0, rSplitN, rJoinN, exists_eq, rIntI, rIntB, rIntS, rStrI, rAbs, rOrd, rMin, rMax, rIxL, rIxX, rSetL, rAppend, rIxS, rSlS, rSlL, tSl, List.map_cons, List.map_nil, List.replicate_succ, List.replicate_zero, List.length_cons, List.length_nil, Nat.reduceSub, Nat.reduceAdd, Nat.zero_add, Nat.sub_self, List.getElem?_cons_zero, List.getElem?_cons_succ, List.set_cons_zero, List.set_cons_succ, List.append_nil, List.nil_append, List.cons_append, Option.some.injEq, not_true_eq_false, reduceCtorEq, exists_eq_left', exists_eq_left, exists_eq', exists_and_left, exists_and_right, V.int.injEq, V.str.injEq, V.bl.injEq, V.ref.injEq, List.cons.injEq, and_true, true_and, and_assoc, decide_eq_true_eq, Bool.not_eq_true', decide_eq_false_iff_not, ite_true, ite_false, if_true, if_false, Bool.not_true, Bool.not_false, Bool.false_eq_true, eq_self_iff_true, reduceIte, ne_eq, Int.reduceEq, not_false_eq_true])
local macro_rules | `(tactic| walk_at "rt") => `(tactic| try walk_at "rd")
local macro_rules | `(tactic| walk_at "st") => `(tactic| (walk_at "rt"; refine r_seq ?_; walk_at "rt"))
local macro_rules | `(tactic| walk_at "hp") => `(tactic| first | assumption | exact upd_same | (rw [upd_ne (by assumption)]; walk_at "hp"))
local macro_rules | `(tactic| walk_at "ex1") => `(tactic| ((with_reducible refine Exists.intro ?w (And.intro ?hx ?_)); (case hx => first | exact sq_of (by walk_at "hp") | exact .inl (sq_of (by walk_at "hp")) | exact rfl | (show _ = some (HO.lst _); walk_at "hp"))))
local macro_rules | `(tactic| walk_at "ex") => `(tactic| repeat (first | walk_at "ex1" | walk_at "rd"))
abbrev s_told : Stmt := topS 72
theorem sc_told : FnScope ["made", "within", "border", "e"] ["made", "within", "border"] (defScope s_told) := ⟨rfl, rfl, rfl, by decide +kernel, rfl, by decide +kernel, by decide +kernel⟩
def spTold (C : Addr) : Sp := fun vs H Q _ => ∃ (m p : Addr) (Ps : List Str) (T : List (Str × Str)) (W : List Str) (b : Bool), vs = [.ref m, .ref p, .bl b] ∧ IsWeb C H m Ps T ∧ sortS Ps = Ps ∧ Ps.Nodup ∧ Ps.length ≤ 20 ∧ T.length ≤ 60 ∧ (∀ e ∈ T, e.1 ∈ Ps ∧ e.2 ∈ Ps) ∧ H p = some (.lst (W.map V.str)) ∧ W.length ≤ 100 ∧
  (∀ y, oddIn Ps W = some y → ∀ r H', Keeps H H' → At H' All (dRaised (Str.ofString "NoPlace") [.str y]) (.ref r) → Q (.ref r) H') ∧
  (oddIn Ps W = none → b = true → ∀ r q H', Keeps H H' → H q = none → H' q = some (.lst ((bord Ps T W).map V.str)) → H' r = some (.tup [.str (Str.ofString "gave"), .ref q]) → Q (.ref r) H') ∧
  (oddIn Ps W = none → b = false → ∀ r q zs as H', Keeps H H' → H q = none → (∀ a ∈ as, H a = none) → Lst T W zs → RowsL H' q (zs.map (grp Ps T W)) as → H' r = some (.tup [.str (Str.ofString "gave"), .ref q]) → Q (.ref r) H')
section
variable {P : Program} {w : World} {K : PySem.W.Frag} {mg : Str → Option Value} {base : Heap}
/-- the suite of a try that tells NoPlace -/
theorem suite_np {H : Hp} {CN d : Addr} {z : Str} {Q : VK} (nd : H d = none) (q : ∀ r H', Keeps H H' → At H' All (dRaised (Str.ofString "NoPlace") [.str z]) (.ref r) → Q (.ref r) H') : ∀ (p2 : Addr), L2.upd H d (.xd [(("place" : Str), .str z)]) p2 = none → ∀ (l : Addr) (H' : Hp), (∀ b o, L2.upd (L2.upd H d (.xd [(("place" : Str), .str z)])) p2 (.tup [.str z]) b = some o → H' b = some o) →
    H' l = some (.lst ((told "NoPlace").map fun x => V.str (Str.ofString x))) → ∀ r, H' r = none → Q (.ref r) (L2.upd H' r (.tup [.str (Str.ofString "raised"), .ref p2, .ref l])) := fun p2 np l H' kp hl r nr => by
  have kk : Keeps H H' := ((Keeps.new nd).trans (Keeps.new np)).trans kp
  exact q r _ (kk.put (kk.free nr)) (at_raised told_NoPlace upd_same (But0.new nr _ _ (kp _ _ upd_same)) (atl_one rfl) (Nat.le_of_ble_eq_true rfl) (But0.new nr _ _ hl))
theorem ok_told {c_Web CN fI f f_parts f_border f_kinds : Addr} {fd fd_parts fd_border fd_kinds : FuncData} (D : Dn K mg "_law_told" s_told ["made", "within", "border"] f fd) (D_kinds : Dn K mg "_law_kinds" s_kinds ["x"] f_kinds fd_kinds)
    (X_NoPlace : Exn K mg "NoPlace" CN fI) (XF_NoPlace : XfC K CN) (no_NoPlace_place : PySem.W.findIn K (.ref CN) "place" = some none) (me : PySem.W.exmOne K (.ref CN) (.ref CN) = some true) (CL_Web : Cls K c_Web) (ME_mWeb_parts : Meth K c_Web "parts" f_parts) (B_mWeb_parts : Binds K fd_parts ["self", "within"] []) (ME_mWeb_border : Meth K c_Web "border" f_border) (B_mWeb_border : Binds K fd_border ["self", "within"] [])
    (G_mWeb_parts : FnOk P w K mg base (L2N.CX P w) 5 f_parts fd_parts ["self", "within"] (spParts c_Web CN)) (G_mWeb_border : FnOk P w K mg base (L2N.CX P w) 5 f_border fd_border ["self", "within"] (spBord c_Web CN)) (G_kinds : FnE P w K mg base CX0 1 f_kinds fd_kinds ["x"] (spKinds K CN "NoPlace")) : FnOk P w K mg base CX0 6 f fd ["made", "within", "border"] (spTold c_Web) := by
  refine D.F.ok sc_told (fun vs H Q E h => ?_) (fun cdv A outer s H vs Q E hr h => ?_)
  · obtain ⟨x, p, Ps, T, W, b, rfl, _⟩ := h
    rfl
  · obtain ⟨x, p, Ps, T, W, b, rfl, hw, hs, hnd, h20, h60, hT, hp, few, h1, h2, h3⟩ := h
    refine ⟨_, (pss_one (L2N.ps_try_as (i := 3) (Wout := fun _ _ _ _ => False) rfl rfl sc_told.nd rfl rfl ⟨rfl, by decide, Or.inl X_NoPlace.g⟩ takesN0
        (fun W pn xe tk hpo => by exact (pss_cons (ps_if (pt_val (pv 2)) (pss_one (ps_ret (pe_tup (pa_cons pe_str (pa_cons (pe_methP (pv 0) CL_Web ME_mWeb_border G_mWeb_border (hr.mono (by omega)) B_mWeb_border (fun σ => L2N.passAt tk σ) (pa_cons (pv 1) pa_nil)) pa_nil))))) pss_nil)
      (pss_one (ps_ret (pe_tup (pa_cons pe_str (pa_cons (pe_methP (pv 0) CL_Web ME_mWeb_parts G_mWeb_parts (hr.mono (by omega)) B_mWeb_parts (fun σ => L2N.passAt tk σ) (pa_cons (pv 1) pa_nil)) pa_nil)))))))
        (fun a oe cls d pn hz hf => by exact (pss_one (ps_ret (pe_tup (pa_cons pe_str (pa_cons (pe_tup (pa_cons (pe_xf XF_NoPlace no_NoPlace_place hz.zc hf (pv 3)) pa_nil)) (pa_cons (pe_kinds G_kinds (hr.mono (by omega)) hz hf (by rfl) D_kinds.g D_kinds.F.kp D_kinds.b (pv 3)) pa_nil))))))))), ?_⟩
    have hw2 := hw
    obtain ⟨pl, tl, nd, dx, vs, WA⟩ := hw2
    walk_at "st"
    cases b with
    | true =>
      rw [if_pos rfl]
      refine ⟨dx, _, WA.ob, webF_no _ _ _ (by decide +kernel) (by decide +kernel) (by decide +kernel), x, p, Ps, T, W, rfl, hw, hs, hnd, h20, h60, hT, hp, few, fun ho q H' k nq hq => ⟨by decide, fun r nr => h2 ho rfl r q _ (k.trans (Keeps.new nr)) nq ((Keeps.new nr) _ _ hq) upd_same⟩, fun y hy d nd => ⟨true, me, fun _ ad na => ?_, fun e => Bool.noConfusion e⟩⟩
      walk_at "rt"
      exact ⟨_, rfl, rfl, rfl, d, _, _, rfl, upd_same, lk_at, by decide, fun p2 np => ⟨rfl, rfl, d, _, rfl, But0.new np _ _ upd_same, fun l H' kp hl => ⟨by decide, suite_np (CN := CN) nd (h1 y hy) p2 np l H' kp hl⟩⟩⟩
    | false =>
      rw [if_neg (by decide)]
      refine ⟨dx, _, WA.ob, webF_no _ _ _ (by decide +kernel) (by decide +kernel) (by decide +kernel), x, p, Ps, T, W, rfl, hw, hs, hnd, h20, h60, hp, few, fun ho q zs as H' k nq na hL hR => ⟨by decide, fun r nr => h3 ho rfl r q zs as _ (k.trans (Keeps.new nr)) nq na hL (hR.keep (Keeps.new nr)) upd_same⟩, fun y hy d nd => ⟨true, me, fun _ ad na => ?_, fun e => Bool.noConfusion e⟩⟩
      walk_at "rt"
      exact ⟨_, rfl, rfl, rfl, d, _, _, rfl, upd_same, lk_at, by decide, fun p2 np => ⟨rfl, rfl, d, _, rfl, But0.new np _ _ upd_same, fun l H' kp hl => ⟨by decide, suite_np (CN := CN) nd (h1 y hy) p2 np l H' kp hl⟩⟩⟩
end
end K01
namespace K01
open PySem PySem.Spec PyProof.Rows L2 TL HotExc L2H HotLc Tw WX
local macro_rules | `(tactic| walk_at "rd") => `(tactic| simp only [start1, tMethP, tG1, rSetOfS, tDisp, tPairs, rSInK, tAug, ipI, rSortedDS, rInD, rSetXc, rSortedX, tUpd, wipe, isR, isBool, isInt, isStr, isLst, isTup, tAsg, gName, gSub, tVar, tC, tOp, tUn, tTest, tIfS, tRet, tRetN, tDrop, tB, tAnd, tOr, tNot, tAndV, tOrV, tNotV, tIf, tCB, tCons, tNil, tNext, tCall, tBM, tTup, tLst, rU, rInW, rNinW, Int.reduceNeg, tG, tG2, sP, tFldC, sFldC, tProp, tMeth, tMake, rOwnC, rLenO, rIsC, rNoT, tAddT, tSAddK, rSAddK, rSInK, rSet0K, rSet0T, rMinS, rMaxS, rSortedQ, rSortedT, rEqD, rNeD, rIxD, dcL_eq, dcZ_eq, lcO_eq, forE_eq, forT_eq, lcS_eq, ItX.rIterN, iOwn, List.append_nil, tDisp, tPairs, tCallS, tCallSD, tCallT, StX.tStar, tCallK, tCallKS, rTupOf, tDrop, rI0, rI, rEq, rNe, scal, forR_eq, forR2_eq, forS_eq, forL_eq, lcT_eq, lcRT_eq, lcS_eq, rLenX, rLenS, rListOf, tRevL, rMulS, rRepL, rCatL, rSumN, rMaxN, tBM0, rPop, tAug, ipI,  tPart, tNoPart, CwR.tReplC, rAllK, rInSg, rNinSg, sgn_inj, rAddS, rInSt, tChain, tM1, tM0, rSplitN, rJoinN, exists_eq, rIntI, rIntB, rIntS, rStrI, rAbs, rOrd, rMin, rMax, rIxL, rIxX, rSetL, rAppend, rIxS, rSlS, rSlL, tSl, List.map_cons, List.map_nil, List.replicate_succ, List.replicate_zero, List.length_cons, List.length_nil, Nat.reduceSub, Nat.reduceAdd, Nat.zero_add, Nat.sub_self, List.getElem?_cons_zero, List.getElem?_cons_succ, List.set_cons_zero, List.set_cons_succ, List.append_nil, List.nil_append, List.cons_append, Option.some.injEq, not_true_eq_false, reduceCtorEq, exists_eq_left', exists_eq_left, exists_eq', exists_and_left, exists_and_right, V.int.injEq, V.str.injEq, V.bl.injEq, V.ref.injEq, List.cons.injEq, and_true, true_and, and_assoc, decide_eq_true_eq, Bool.not_eq_true', decide_eq_false_iff_not, ite_true, ite_false, if_true, if_false, Bool.not_true, Bool.not_false, Bool.false_eq_true, eq_self_iff_true, reduceIte, ne_eq, Int.reduceEq, not_false_eq_true])
local macro_rules | `(tactic| walk_at "rt") => `(tactic| try walk_at "rd")
local macro_rules | `(tactic| walk_at "st") => `(tactic| (walk_at "rt"; refine r_seq ?_; walk_at "rt"))
local macro_rules | `(tactic| walk_at "hp") => `(tactic| first | assumption | exact upd_same | (rw [upd_ne (by assumption)]; walk_at "hp"))
local macro_rules | `(tactic| walk_at "ex1") => `(tactic| ((with_reducible refine Exists.intro ?w (And.intro ?hx ?_)); (case hx => first | exact sq_of (by walk_at "hp") | exact .inl (sq_of (by walk_at "hp")) | exact rfl | (show _ = some (HO.lst _); walk_at "hp"))))
local macro_rules | `(tactic| walk_at "ex") => `(tactic| repeat (first | walk_at "ex1" | walk_at "rd"))
abbrev s_setgood : Stmt := topS 73
theorem sc_setgood : FnScope ["web", "made", "within", "kept", "odd", "parts", "border", "group", "text"] ["web", "made", "within"] (defScope s_setgood) := ⟨rfl, rfl, rfl, by decide +kernel, rfl, by decide +kernel, by decide +kernel⟩
theorem nd_get {α : Type} {l : List α} (nd : l.Nodup) {i j : Nat} {a : α} (hi : l[i]? = some a) (hj : l[j]? = some a) : i = j := by
  obtain ⟨h1, e1⟩ := List.getElem?_eq_some_iff.mp hi
  obtain ⟨h2, e2⟩ := List.getElem?_eq_some_iff.mp hj
  rcases Nat.lt_trichotomy i j with g | g | g
  · exact absurd (e1.trans e2.symm) (List.pairwise_iff_getElem.mp nd i j h1 h2 g)
  · exact g
  · exact absurd (e2.trans e1.symm) (List.pairwise_iff_getElem.mp nd j i h2 h1 g)
def odds (Ps W : List Str) : List Str := W.filter fun z => decide (z ∉ Ps)
theorem odds_head (Ps W : List Str) : (odds Ps W).head? = oddIn Ps W := by
  unfold odds oddIn
  exact List.head?_filter
theorem dep_strs' (W : List Str) : (dStrs W).dep ≤ 1 := by
  have : ∀ l : List Str, depL (l.map Dat.str) = 0 := by
    intro l
    induction l with
    | nil => rfl
    | cons a l ih => rw [List.map_cons, depL, ih]; rfl
  rw [dStrs, Dat.dep, this]
  exact Nat.le_refl _
theorem dep_raised' (k : Str) (z : Str) : (dRaised k [.str z]).dep ≤ 2 := by simp [dRaised, dStrs, Dat.dep, depL]
theorem lcT_odds {K : PySem.W.Frag} {r pa ta nd kp D : Addr} {Ps W : List Str} {H : Hp} {Q : Hp → Prop} {x1 x2 x3 x4 x5 x6 x7 x8 : Option V} (hr0 : H r = some (.tup [.ref pa, .ref ta, .ref nd])) (hpa : H pa = some (.lst (Ps.map V.str))) (hkp : H kp = some (.lst (W.map V.str))) (few : W.length ≤ 100) (nD : H D = none) (q : ∀ H', Keeps H H' → H' D = some (.lst ((odds Ps W).map V.str)) → Q H') :
    LcT (Itl K kp) (gName 8) (tTest (tOp (rNinW K) (tVar 8) (tOp (rIxX K) (tVar 0) (tC (.int 0))))) (tVar 8) [8] [some (.ref r), x1, x2, x3, x4, x5, x6, x7, x8] H D Q := by
  refine r_lcT (W.map V.str) (fun i H' => Keeps H H' ∧ H' D = some (.lst ((odds Ps (W.take i)).map V.str))) (fun _ => rfl) ⟨Keeps.new nD, upd_same⟩ (fun i H' _ h => sq_of (h.1 _ _ hkp)) ?_ ?_
  · rintro i v H' hx ⟨k, hD⟩ N M kN kM
    obtain ⟨z, h1, rfl⟩ := get_map hx
    have hi := lt_of_get h1
    have fs := filter_snoc (p := fun z => decide (z ∉ Ps)) h1
    have bl : (odds Ps (W.take i)).length ≤ 100 := by
      refine Nat.le_trans (List.length_filter_le _ _) ?_
      rw [List.length_take]
      omega
    have web : SqL K H' r [.ref pa, .ref ta, .ref nd] ∨ SqT K H' r [.ref pa, .ref ta, .ref nd] := .inr (tup_at (k _ _ hr0))
    walk_at "rt"
    refine ⟨_, web, _, rfl, pa, rfl, Ps, .inl (sq_of (k _ _ hpa)), ite2 (fun h => ?_) (fun h => ?_)⟩
    · refine kN _ H' _ hD (size_ok (by rw [List.length_map]; omega)) ⟨k.put nD, ?_⟩
      rw [upd_same]
      unfold odds
      rw [fs, if_pos (decide_eq_true h), List.map_append]
      rfl
    · refine kM H' ⟨k, ?_⟩
      unfold odds
      rw [fs, if_neg (fun g => h (of_decide_eq_true g)), List.append_nil]
      exact hD
  · rintro H' ⟨k, hD⟩
    rw [List.length_map, List.take_length] at hD
    exact q H' k hD
def spSG (C : Addr) : Sp := fun vs H Q _ => ∃ (r m p : Addr) (Ps : List Str) (T : List (Str × Str)) (W : List Str), vs = [.ref r, .ref m, .ref p] ∧ H p = some (.lst (W.map V.str)) ∧ W.length ≤ 95 ∧ Wok Ps T ∧ ∃ H0 : Hp, Keeps H0 H ∧ H0 p = none ∧ LW H0 r Ps T ∧ IsWeb C H0 m Ps T ∧ ∀ H', Keeps H0 H' → Q (.bl true) H'
section
variable {P : Program} {w : World} {K : PySem.W.Frag} {mg : Str → Option Value} {base : Heap}
theorem ok_setgood {c_Web CN f f_told f_like f_due f_partsright f_outside f_parts f_border : Addr} {fd fd_told fd_like fd_due fd_partsright fd_outside fd_parts fd_border : FuncData} (B : Bi mg) (D : Dn K mg "_law_set_good" s_setgood ["web", "made", "within"] f fd)
    (D_told : Dn K mg "_law_told" s_told ["made", "within", "border"] f_told fd_told) (D_like : Dn K mg "_law_like" s_like ["one", "two"] f_like fd_like) (D_due : Dn K mg "_law_due" s_due ["kind", "values"] f_due fd_due) (D_partsright : Dn K mg "_law_parts_right" s_partsright ["web", "within", "told"] f_partsright fd_partsright) (D_outside : Dn K mg "_law_outside" s_outside ["web", "within"] f_outside fd_outside)
    (G_told : FnOk P w K mg base CX0 6 f_told fd_told ["made", "within", "border"] (spTold c_Web)) (G_like : FnOk P w K mg base CX0 6 f_like fd_like ["one", "two"] (spLike 5)) (G_due : FnOk P w K mg base CX0 1 f_due fd_due ["kind", "values"] spDue) (G_partsright : FnOk P w K mg base CX0 2 f_partsright fd_partsright ["web", "within", "told"] spPR) (G_outside : FnOk P w K mg base CX0 1 f_outside fd_outside ["web", "within"] spOut)
    (CL_Web : Cls K c_Web) (ME_mWeb_parts : Meth K c_Web "parts" f_parts) (B_mWeb_parts : Binds K fd_parts ["self", "within"] []) (ME_mWeb_border : Meth K c_Web "border" f_border) (B_mWeb_border : Binds K fd_border ["self", "within"] [])
    (G_mWeb_parts : FnOk P w K mg base (L2N.CX P w) 5 f_parts fd_parts ["self", "within"] (spParts c_Web CN)) (G_mWeb_border : FnOk P w K mg base (L2N.CX P w) 5 f_border fd_border ["self", "within"] (spBord c_Web CN)) : FnOk P w K mg base CX0 8 f fd ["web", "made", "within"] (spSG c_Web) := by
  refine D.F.ok sc_setgood (fun vs H Q E h => ?_) (fun cdv A outer s H vs Q E hr h => ?_)
  · obtain ⟨r, m, p, Ps, T, W, rfl, _⟩ := h
    rfl
  · obtain ⟨r, m, p, Ps, T, W, rfl, hp, few, wok, H0, k0, np0, hLW, hWeb, q⟩ := h
    refine ⟨_, (pss_cons (ps_set (i := 3) sc_setgood.nd rfl (.inl rfl) (pe_callTy (call_listK (K := K)) (by rfl) B.list_ (by decide +kernel) (pa_cons (pv 2) pa_nil)))
      (pss_cons (ps_setLc (i := 4) (own := [("text", 8)]) (g := gName 8) (by rfl) sc_setgood.nd rfl rfl (sw_true rfl rfl rfl (by decide +kernel)) (pi_listK (K := K) (pv 3)) (blkOk_by (own := [("text", 8)]) (N := ["web", "made", "within", "kept", "odd", "parts", "border", "group", "text"]) (sc := defScope s_setgood) (by decide +kernel)) (fun _ _ _ _ _ => pg_name (i := 8) sc_setgood.nd rfl (Or.inl rfl)) (fun _ _ _ _ _ => (pts_one (pt_cmpR (op_ninW (K := K)) (pv 8) (pe_ix (ix_sxK (K := K)) (pv 0) pe_int (fun _ _ => rfl)) (by rfl)))) (fun _ _ _ _ _ => (pv 8)))
      (pss_cons (ps_set (i := 5) sc_setgood.nd rfl (.inl rfl) (pe_call G_told (hr.mono (by omega)) (by rfl) D_told.g D_told.F.kp D_told.b .nil pass0 (pa_cons (pv 1) (pa_cons (pv 2) (pa_cons pe_bl pa_nil)))))
      (pss_cons (ps_set (i := 6) sc_setgood.nd rfl (.inl rfl) (pe_call G_told (hr.mono (by omega)) (by rfl) D_told.g D_told.F.kp D_told.b .nil pass0 (pa_cons (pv 1) (pa_cons (pv 2) (pa_cons pe_bl pa_nil)))))
      (pss_cons (ps_if (pt_not (pt_val (pe_call G_like (hr.mono (by omega)) (by rfl) D_like.g D_like.F.kp D_like.b .nil pass0 (pa_cons (pv 2) (pa_cons (pv 3) pa_nil))))) (pss_one (ps_ret pe_bl)) pss_nil)
      (pss_cons (ps_if (pt_cmpR op_gt (pe_callB (call_lenXK (K := K)) (by rfl) B.len PySem.boot_len (pa_cons (pv 4) pa_nil)) pe_int (nomark _)) (pss_one (ps_ret (pe_call G_like (hr.mono (by omega)) (by rfl) D_like.g D_like.F.kp D_like.b .nil pass0 (pa_cons (pe_lst (pa_cons (pv 5) (pa_cons (pv 6) pa_nil))) (pa_cons (pe_lst (pa_cons (pe_call G_due (hr.mono (by omega)) (by rfl) D_due.g D_due.F.kp D_due.b .nil pass0 (pa_cons pe_str (pa_cons (pe_tup (pa_cons (pe_ix (ix_listK (K := K)) (pv 4) pe_int (fun _ _ => rfl)) pa_nil)) pa_nil))) (pa_cons (pe_call G_due (hr.mono (by omega)) (by rfl) D_due.g D_due.F.kp D_due.b .nil pass0 (pa_cons pe_str (pa_cons (pe_tup (pa_cons (pe_ix (ix_listK (K := K)) (pv 4) pe_int (fun _ _ => rfl)) pa_nil)) pa_nil))) pa_nil))) pa_nil))))) pss_nil)
      (pss_cons (ps_if (PW.pt (pw_or (pt_cmpR op_ne (pe_ix (ix_sxK (K := K)) (pv 5) pe_int (fun _ _ => rfl)) pe_str (nomark _)) (pw_or1 (pt_not (pt_val (pe_call G_partsright (hr.mono (by omega)) (by rfl) D_partsright.g D_partsright.F.kp D_partsright.b .nil pass0 (pa_cons (pv 0) (pa_cons (pv 3) (pa_cons (pe_ix (ix_sxK (K := K)) (pv 5) pe_int (fun _ _ => rfl)) pa_nil))))))))) (pss_one (ps_ret pe_bl)) pss_nil)
      (pss_cons (ps_if (pt_not (pt_val (pe_call G_like (hr.mono (by omega)) (by rfl) D_like.g D_like.F.kp D_like.b .nil pass0 (pa_cons (pv 6) (pa_cons (pe_tup (pa_cons pe_str (pa_cons (pe_call G_outside (hr.mono (by omega)) (by rfl) D_outside.g D_outside.F.kp D_outside.b .nil pass0 (pa_cons (pv 0) (pa_cons (pv 3) pa_nil))) pa_nil))) pa_nil))))) (pss_one (ps_ret pe_bl)) pss_nil)
      (pss_cons (ps_expr (pe_bm PySem.F.plainAttrs_list PySem.F.slot_list_insert PySem.F.type_list_insert mt_insert (pe_ix (ix_sxK (K := K)) (pv 5) pe_int (fun _ _ => rfl)) (pa_cons pe_int (pa_cons (pe_lst (pa_cons pe_str pa_nil)) pa_nil))))
      (pss_cons (ps_expr (pe_bm PySem.F.plainAttrs_list PySem.F.slot_list_append PySem.F.type_list_append mt_append (pe_ix (ix_sxK (K := K)) (pv 6) pe_int (fun _ _ => rfl)) (pa_cons pe_str pa_nil)))
      (pss_cons (ps_expr (pe_bm PySem.F.plainAttrs_list PySem.F.slot_list_append PySem.F.type_list_append mt_append (pv 2) (pa_cons (pe_ix (ix_listK (K := K)) (pe_ix (ix_sxK (K := K)) (pv 0) pe_int (fun _ _ => rfl)) pe_int (fun _ _ => rfl)) pa_nil)))
      (pss_cons (ps_for PassesOwn.never rfl (pi_listK (K := K) (pe_slice (sl_listK (K := K)) (pe_ix (ix_sxK (K := K)) (pv 5) pe_int (fun _ _ => rfl)) (po_some pe_int) po_none)) (pg_name (i := 7) sc_setgood.nd rfl (.inl rfl)) (pss_one (ps_expr (pe_bm PySem.F.plainAttrs_list PySem.F.slot_list_append PySem.F.type_list_append mt_append (pv 7) (pa_cons pe_str pa_nil)))))
      (pss_one (ps_ret (pe_and (pe_call G_partsright (hr.mono (by omega)) (by rfl) D_partsright.g D_partsright.F.kp D_partsright.b .nil pass0 (pa_cons (pv 0) (pa_cons (pv 3) (pa_cons (pe_methP (pv 1) CL_Web ME_mWeb_parts G_mWeb_parts (hr.mono (by omega)) B_mWeb_parts passS0 (pa_cons (pv 3) pa_nil)) pa_nil)))) (pe_one (pe_call G_like (hr.mono (by omega)) (by rfl) D_like.g D_like.F.kp D_like.b .nil pass0 (pa_cons (pe_methP (pv 1) CL_Web ME_mWeb_border G_mWeb_border (hr.mono (by omega)) B_mWeb_border passS0 (pa_cons (pv 3) pa_nil)) (pa_cons (pe_call G_outside (hr.mono (by omega)) (by rfl) D_outside.g D_outside.F.kp D_outside.b .nil pass0 (pa_cons (pv 0) (pa_cons (pv 3) pa_nil))) pa_nil))))))))))))))))))), ?_⟩
    have F := wok.fit
    have h20 := F.p20
    have h60 := F.e60
    obtain ⟨pa, ta, ⟨nd, hr0, hnd⟩, hpa, htr⟩ := id hLW
    have web : ∀ H', Keeps H0 H' → SqL K H' r [.ref pa, .ref ta, .ref nd] ∨ SqT K H' r [.ref pa, .ref ta, .ref nd] := fun H' k => .inr (tup_at (k _ _ hr0))
    have sz1 : 1 ≤ sizeLine := Nat.le_of_ble_eq_true rfl
    have sz2 : 2 ≤ sizeLine := Nat.le_of_ble_eq_true rfl
    walk_at "st"
    refine ⟨_, .inl (sq_of hp), fun kp nkp => ?_⟩
    have k1 : Keeps H (L2.upd H kp (.lst (W.map V.str))) := Keeps.new nkp
    have hkp : L2.upd H kp (.lst (W.map V.str)) kp = some (.lst (W.map V.str)) := upd_same
    have npk : p ≠ kp := ne_of_none hp nkp
    generalize L2.upd H kp (.lst (W.map V.str)) = H1 at *
    walk_at "st"
    refine ⟨⟨_, sq_of hkp⟩, fun od nod => ?_⟩
    have k01 := k0.trans k1
    refine lcT_odds (k01 _ _ hr0) (k01 _ _ hpa) hkp (by omega) nod fun H2 k2 hod => ?_
    have k02 := k01.trans k2
    have hp2 := k2 _ _ (k1 _ _ hp)
    have hkp2 := k2 _ _ hkp
    have hh := odds_head Ps W
    walk_at "st"
    have dW := dep_strs' W
    cases ho : oddIn Ps W with
    | some z =>
      rw [ho] at hh
      obtain ⟨zr, hzr⟩ : ∃ t, odds Ps W = z :: t := by
        cases e : odds Ps W with
        | nil => rw [e] at hh; cases hh
        | cons a t => rw [e] at hh; cases hh; exact ⟨t, rfl⟩
      have at0 : atI ((odds Ps W).map V.str) 0 = some (.str z) := by rw [hzr]; exact atI_nat (j := 0) rfl
      refine ⟨m, p, Ps, T, W, false, rfl, hWeb.keep k02, wok.ps, F.pnd, h20, h60, F.inP, hp2, by omega, fun y hy rp H3 k3 a3 => ?_, fun e => absurd (ho.symm.trans e) (fun z => by cases z), fun e => absurd (ho.symm.trans e) (fun z => by cases z)⟩
      obtain rfl : z = y := Option.some.inj (ho.symm.trans hy)
      walk_at "st"
      refine ⟨m, p, Ps, T, W, true, rfl, hWeb.keep (k02.trans k3), wok.ps, F.pnd, h20, h60, F.inP, k3 _ _ hp2, by omega, fun y hy rb H4 k4 a4 => ?_, fun e => absurd (ho.symm.trans e) (fun z => by cases z), fun e => absurd (ho.symm.trans e) (fun z => by cases z)⟩
      obtain rfl : z = y := Option.some.inj (ho.symm.trans hy)
      have k34 := k3.trans k4
      walk_at "st"
      refine ⟨_, _, All, All, dStrs W, rfl, at_strs (k34 _ _ hp2) (by omega), at_strs (k34 _ _ hkp2) (by omega), Nat.le_trans dW (by decide), fun H5 k5 => ⟨true, rfl, ?_⟩⟩
      simp only [Bool.true_eq_false, if_false]
      have k45 := k34.trans k5
      have hod5 := k45 _ _ hod
      walk_at "st"
      refine ⟨_, .inl (sq_of hod5), ite2 (fun _ => ?_) (fun h => absurd (by rw [List.length_map, hzr, List.length_cons]; omega) h)⟩
      walk_at "rt"
      have g1 := fun (p1 : Addr) (n1 : H5 p1 = none) => Keeps.new (x := .lst [.ref rp, .ref rb]) n1
      refine ⟨sz2, fun p1 n1 => ⟨_, sq_of ((g1 p1 n1) _ _ hod5), _, at0, sz1, fun p2 n2 => ⟨_, p2, _, [.str z], rfl, upd_same, atl_one rfl, Nat.le_of_ble_eq_true rfl, fun r1 H6 k6 a6 => ?_⟩⟩⟩
      have k56 := ((g1 p1 n1).trans (Keeps.new n2)).trans k6
      refine ⟨_, sq_of (k56 _ _ hod5), _, at0, sz1, fun p3 n3 => ⟨_, p3, _, [.str z], rfl, upd_same, atl_one rfl, Nat.le_of_ble_eq_true rfl, fun r2 H7 k7 a7 => ⟨sz2, fun p4 n4 => ?_⟩⟩⟩
      have g4 := Keeps.new (x := .lst [.ref r1, .ref r2]) n4
      have k67 := ((Keeps.new n3).trans k7).trans g4
      have k16 := ((Keeps.new n2).trans k6).trans k67
      have k58 := (g1 p1 n1).trans k16
      have d2 := dep_raised' (Str.ofString "NoPlace") z
      refine ⟨_, _, All, All, .lst [dRaised (Str.ofString "NoPlace") [.str z], dRaised (Str.ofString "NoPlace") [.str z]], rfl, at_lst (k16 _ _ upd_same) (Nat.le_of_ble_eq_true rfl) (atl_cons (At.keepA a3 ((k4.trans k5).trans k58)) (atl_one (At.keepA a4 (k5.trans k58)))), at_lst upd_same (Nat.le_of_ble_eq_true rfl) (atl_cons (At.keepA a6 k67) (atl_one (At.keepA a7 g4))), ?_, fun H8 k8 => q H8 (((k02.trans k45).trans k58).trans k8)⟩
      simp only [Dat.dep, depL]
      omega
    | none =>
      rw [ho] at hh
      have hz0 : odds Ps W = [] := by
        cases e : odds Ps W with
        | nil => rfl
        | cons a t => rw [e] at hh; cases hh
      have hin := odd_none ho
      refine ⟨m, p, Ps, T, W, false, rfl, hWeb.keep k02, wok.ps, F.pnd, h20, h60, F.inP, hp2, by omega, fun y e => absurd (ho.symm.trans e) (fun z => by cases z), fun _ e => absurd e (by decide), fun _ _ rp qp zs as H3 k3 nqp nas hL hR hrp => ?_⟩
      have k03 := k02.trans k3
      walk_at "st"
      refine ⟨m, p, Ps, T, W, true, rfl, hWeb.keep k03, wok.ps, F.pnd, h20, h60, F.inP, k3 _ _ hp2, by omega, fun y e => absurd (ho.symm.trans e) (fun z => by cases z), fun _ _ rb qb H4 k4 nqb hqb hrb => ?_, fun _ e => absurd e (by decide)⟩
      have k34 := k3.trans k4
      have k04 := k02.trans k34
      walk_at "st"
      refine ⟨_, _, All, All, dStrs W, rfl, at_strs (k34 _ _ hp2) (by omega), at_strs (k34 _ _ hkp2) (by omega), Nat.le_trans dW (by decide), fun H5 k5 => ⟨true, rfl, ?_⟩⟩
      simp only [Bool.true_eq_false, if_false]
      have k05 := k04.trans k5
      have k25 := k34.trans k5
      have k35 := k4.trans k5
      have hod5 := k25 _ _ hod
      walk_at "st"
      refine ⟨_, .inl (sq_of hod5), ite2 (fun h => absurd h (by rw [hz0]; decide)) (fun _ => ?_)⟩
      walk_at "st"
      refine ⟨_, .inr (tup_at (k35 _ _ hrp)), _, rfl, rfl, ite2 (fun h => absurd rfl h) (fun _ => ⟨_, .inr (tup_at (k35 _ _ hrp)), _, rfl, r, kp, qp, Ps, T, W, zs, as, rfl, hLW.keep k05, wok, k25 _ _ hkp2, by omega, hin, hL, hR.keep k35, fun H6 k6 => ⟨true, rfl, ?_⟩⟩)⟩
      simp only [Bool.true_eq_false, if_false]
      have k06 := k05.trans k6
      have k26 := k25.trans k6
      have k46 := k5.trans k6
      walk_at "st"
      refine ⟨r, kp, Ps, T, W, rfl, hLW.keep k06, wok, k26 _ _ hkp2, fun qo H7 k7 nqo hqo => ⟨sz2, fun tp ntp => ?_⟩⟩
      have bl : (bord Ps T W).length ≤ 20 := Nat.le_trans (List.length_filter_le _ _) h20
      have g1 := Keeps.new (x := .tup [.str (Str.ofString "gave"), .ref qo]) ntp
      have k4t := (k46.trans k7).trans g1
      have dB := dep_strs' (bord Ps T W)
      refine ⟨_, _, All, All, .tup [.str (Str.ofString "gave"), dStrs (bord Ps T W)], rfl, at_tup (k4t _ _ hrb) (Nat.le_of_ble_eq_true rfl) (atl_cons rfl (atl_one (at_strs (k4t _ _ hqb) (by omega)))), at_tup upd_same (Nat.le_of_ble_eq_true rfl) (atl_cons rfl (atl_one (at_strs (g1 _ _ hqo) (by omega)))), ?_, fun H8 k8 => ⟨true, rfl, ?_⟩⟩
      · simp only [Dat.dep, depL]
        omega
      simp only [Bool.true_eq_false, if_false]
      have k48 := k4t.trans k8
      have k38 := k4.trans k48
      have k28 := k3.trans k38
      have k08 := k02.trans k28
      have hkp8 := k28 _ _ hkp2
      have hp8 := k28 _ _ hp2
      have hR8 := hR.keep k38
      have hrp8 := k38 _ _ hrp
      have hqb8 := k48 _ _ hqb
      have hrb8 := k48 _ _ hrb
      -- who is who
      have nqp0 := k02.free nqp
      have nas0 : ∀ a ∈ as, H0 a = none := fun a ha => k02.free (nas a ha)
      have nqb0 := k03.free nqb
      have fresh2 : ∀ {a b : Addr} {o : HO}, H2 a = none → H2 b = some o → b ≠ a := fun h1 h2 e => by rw [e, h1] at h2; cases h2
      have qb_qp : qb ≠ qp := fun e => by rw [e] at nqb; rw [hR.top] at nqb; cases nqb
      have row3 : ∀ a ∈ as, ∃ o, H3 a = some o := fun a ha => by
        obtain ⟨j, hj, e⟩ := List.getElem_of_mem ha
        exact ⟨_, e ▸ hR.row j _ _ (List.getElem?_eq_getElem hj) (List.getElem?_eq_getElem (hR.len ▸ hj))⟩
      have qb_as : ∀ a ∈ as, a ≠ qb := fun a ha e => by
        obtain ⟨o, h⟩ := row3 a ha
        rw [e, nqb] at h
        cases h
      have kp_qp := fresh2 nqp hkp2
      have kp_qb : kp ≠ qb := fun e => by rw [← e, k3 _ _ hkp2] at nqb; cases nqb
      have p_qp := fresh2 nqp hp2
      have p_qb : p ≠ qb := fun e => by rw [← e, k3 _ _ hp2] at nqb; cases nqb
      have asl : as.length ≤ 20 := by
        rw [hR.len, List.length_map]
        exact Nat.le_trans (nd_len zs Ps hL.nd fun z hz => hin z (hL.mem z hz)) h20
      clear hrb hqb hrp hR k4t k46 k26 k06 k05 k25 k35 k34 k04 g1 hod5 hod
      walk_at "st"
      refine ⟨_, .inr (tup_at hrp8), _, rfl, .inl ⟨rfl, _, sq_of hR8.top⟩, sz1, fun la nla => ⟨qp, rfl, _, (Keeps.new nla) _ _ hR8.top, size_ok (by rw [List.length_map]; omega), Int.le_refl _, by decide, ?_⟩⟩
      have e9 : List.take (0 : Int).toNat (as.map V.ref) ++ [V.ref la] ++ List.drop (0 : Int).toNat (as.map V.ref) = (la :: as).map V.ref := rfl
      rw [e9]
      have st9 : ∀ {b : Addr} {o : HO}, b ≠ qp → H8 b = some o → L2.upd (L2.upd H8 la (.lst [.str (Str.ofString "a")])) qp (.lst ((la :: as).map V.ref)) b = some o := fun hb h => (upd_ne hb).trans ((Keeps.new nla) _ _ h)
      have k09 : Keeps H0 (L2.upd (L2.upd H8 la (.lst [.str (Str.ofString "a")])) qp (.lst ((la :: as).map V.ref))) := (k08.trans (Keeps.new nla)).put nqp0
      have hq9 : L2.upd (L2.upd H8 la (.lst [.str (Str.ofString "a")])) qp (.lst ((la :: as).map V.ref)) qp = some (.lst ((la :: as).map V.ref)) := upd_same
      generalize L2.upd (L2.upd H8 la (.lst [.str (Str.ofString "a")])) qp (.lst ((la :: as).map V.ref)) = H9 at *
      have nTup : ∀ {a b : Addr} {xs ys : List V} {h : Hp}, h a = some (.tup xs) → h b = some (.lst ys) → a ≠ b := fun h1 h2 e => by rw [e, h2] at h1; cases h1
      have hrb9 := st9 (nTup hrb8 hR8.top) hrb8
      have hrp9 := st9 (nTup hrp8 hR8.top) hrp8
      have hqb9 := st9 qb_qp hqb8
      have as_qp : ∀ a ∈ as, a ≠ qp := fun a ha e => hR8.no (e ▸ ha)
      walk_at "st"
      refine ⟨_, .inr (tup_at hrb9), _, rfl, .inl ⟨rfl, _, sq_of hqb9⟩, qb, rfl, _, hqb9, size_ok (by rw [List.length_map]; omega), ?_⟩
      have st10 : ∀ {b : Addr} {o : HO}, b ≠ qb → H9 b = some o → L2.upd H9 qb (.lst ((bord Ps T W).map V.str ++ [.str (Str.ofString "a")])) b = some o := fun hb h => (upd_ne hb).trans h
      have k010 : Keeps H0 (L2.upd H9 qb (.lst ((bord Ps T W).map V.str ++ [.str (Str.ofString "a")]))) := k09.put nqb0
      generalize L2.upd H9 qb (.lst ((bord Ps T W).map V.str ++ [.str (Str.ofString "a")])) = H10 at *
      have hp10 := st10 p_qb (st9 p_qp hp8)
      have hq10 := st10 qb_qp.symm hq9
      obtain ⟨n0, hn0⟩ : ∃ n0, Ps[0]? = some n0 := ⟨_, List.getElem?_eq_getElem (List.length_pos_iff.mpr F.ne)⟩
      have atn : atI (Ps.map V.str) 0 = some (.str n0) := atI_nat (j := 0) (by rw [List.getElem?_map, hn0]; rfl)
      walk_at "st"
      refine ⟨.inl ⟨rfl, _, sq_of hp10⟩, _, web _ k010, _, rfl, pa, rfl, _, sq_of (k010 _ _ hpa), _, atn, _, hp10, size_ok (by rw [List.length_map]; omega), ?_⟩
      have rows : ∀ (j : Nat) a l, as[j]? = some a → (zs.map (grp Ps T W))[j]? = some l → L2.upd H10 p (.lst (W.map V.str ++ [.str n0])) a = some (.lst (l.map V.str)) := fun j a l h1 h2 => by
        have ha := List.mem_of_getElem? h1
        exact (upd_ne (fresh2 (nas a ha) hp2).symm).trans (st10 (qb_as a ha) (st9 (as_qp a ha) (hR8.row j a l h1 h2)))
      have hkp11 : L2.upd H10 p (.lst (W.map V.str ++ [.str n0])) kp = some (.lst (W.map V.str)) := (upd_ne npk.symm).trans (st10 kp_qb (st9 kp_qp hkp8))
      have hrp11 : L2.upd H10 p (.lst (W.map V.str ++ [.str n0])) rp = some (.tup [.str (Str.ofString "gave"), .ref qp]) := (upd_ne (nTup hrp8 hp8)).trans (st10 (nTup hrp9 hqb9) hrp9)
      have hq11 : L2.upd H10 p (.lst (W.map V.str ++ [.str n0])) qp = some (.lst ((la :: as).map V.ref)) := (upd_ne p_qp.symm).trans hq10
      have k011 : Keeps H0 (L2.upd H10 p (.lst (W.map V.str ++ [.str n0]))) := k010.put np0
      generalize L2.upd H10 p (.lst (W.map V.str ++ [.str n0])) = H11 at *
      walk_at "st"
      refine ⟨_, .inr (tup_at hrp11), _, rfl, qp, rfl, _, sq_of hq11, fun sl nsl => ?_⟩
      have ec : cutV ((la :: as).map V.ref) (some 1) none = as.map V.ref := cutV_from _ 1
      rw [ec]
      have g12 := Keeps.new (x := .lst (as.map V.ref)) nsl
      have k012 := k011.trans g12
      have hsl : L2.upd H11 sl (.lst (as.map V.ref)) sl = some (.lst (as.map V.ref)) := upd_same
      have hkp12 := g12 _ _ hkp11
      have rows12 := fun (j : Nat) (a : Addr) (l : List Str) (h1 : as[j]? = some a) (h2 : (zs.map (grp Ps T W))[j]? = some l) => g12 _ _ (rows j a l h1 h2)
      have as_sl : ∀ (j : Nat) a, as[j]? = some a → sl ≠ a := fun j a h e => by
        obtain ⟨hj, _⟩ := List.getElem?_eq_some_iff.mp h
        have := rows j a _ h (List.getElem?_eq_getElem (hR8.len ▸ hj))
        rw [← e, nsl] at this
        cases this
      generalize L2.upd H11 sl (.lst (as.map V.ref)) = H12 at *
      refine ⟨⟨_, sq_of hsl⟩, ?_⟩
      refine r_list (as.map V.ref) (fun j σ H' => (∃ x7, σ = [some (.ref r), some (.ref m), some (.ref p), some (.ref kp), some (.ref od), some (.ref rp), some (.ref rb), x7, none]) ∧ Keeps H0 H' ∧ H' sl = some (.lst (as.map V.ref)) ∧ H' kp = some (.lst (W.map V.str)) ∧ ∀ (j' : Nat) a l, j ≤ j' → as[j']? = some a → (zs.map (grp Ps T W))[j']? = some l → H' a = some (.lst (l.map V.str)))
        ⟨⟨_, rfl⟩, k012, hsl, hkp12, fun j' a l _ => rows12 j' a l⟩ (fun j σ H' _ h => sq_of h.2.2.1) ?_ ?_
      · rintro j v σ H' hv ⟨⟨x7, rfl⟩, k, hsl', hkp', hrows⟩ N kk
        rw [List.getElem?_map] at hv
        obtain ⟨a, ha, rfl⟩ := Option.map_eq_some_iff.mp hv
        obtain ⟨hj, ej⟩ := List.getElem?_eq_some_iff.mp ha
        obtain ⟨l, hl⟩ : ∃ l, (zs.map (grp Ps T W))[j]? = some l := ⟨_, List.getElem?_eq_getElem (hR8.len ▸ hj)⟩
        have hrow := hrows j a l (Nat.le_refl _) ha hl
        have hll : l.length ≤ 20 := by
          obtain ⟨z, _, rfl⟩ := List.mem_map.mp (List.mem_of_getElem? hl)
          exact Nat.le_trans grp_len h20
        have ham := List.mem_of_getElem? ha
        walk_at "rt"
        refine ⟨.inl ⟨rfl, _, sq_of hrow⟩, _, hrow, size_ok (by rw [List.length_map]; omega), kk _ _ ⟨⟨_, rfl⟩, k.put (nas0 a ham), (upd_ne (as_sl j a ha)).trans hsl', (upd_ne (fresh2 (nas a ham) hkp2)).trans hkp', fun j' b l' hj' hb hl' => ?_⟩⟩
        refine (upd_ne (fun e => ?_)).trans (hrows j' b l' (by omega) hb hl')
        have := nd_get hR8.nd hb (e ▸ ha)
        omega
      rintro σ H' ⟨⟨x7, rfl⟩, k, hsl', hkp', _⟩
      walk_at "rt"
      have no : ∀ y, oddIn Ps W ≠ some y := fun y e => by rw [ho] at e; cases e
      obtain ⟨pl', tl', nd', dx, vs, WA⟩ := hWeb.keep k
      refine ⟨dx, _, WA.ob, webF_no _ _ _ (by decide +kernel) (by decide +kernel) (by decide +kernel), m, kp, Ps, T, W, rfl, hWeb.keep k, wok.ps, F.pnd, h20, h60, hkp', by omega, fun _ q2 zs2 as2 H13 k13 nq2 na2 hL2 hR2 => ⟨r, kp, q2, Ps, T, W, zs2, as2, rfl, hLW.keep (k.trans k13), wok, k13 _ _ hkp', by omega, hin, hL2, hR2, fun H14 k14 => ⟨true, rfl, ?_⟩⟩, fun y e => absurd e (no y)⟩
      rw [if_pos rfl]
      have kk := k13.trans k14
      have k014 := k.trans kk
      have hkp14 := kk _ _ hkp'
      obtain ⟨pl', tl', nd', dx, vs, WA⟩ := hWeb.keep k014
      refine ⟨dx, _, WA.ob, webF_no _ _ _ (by decide +kernel) (by decide +kernel) (by decide +kernel), m, kp, Ps, T, W, rfl, hWeb.keep k014, wok.ps, F.pnd, h20, h60, F.inP, hkp14, by omega, fun _ q3 H15 k15 nq3 hq3 => ⟨r, kp, Ps, T, W, rfl, hLW.keep (k014.trans k15), wok, k15 _ _ hkp14, fun q4 H16 k16 nq4 hq4 => ?_⟩, fun y e => absurd e (no y)⟩
      exact ⟨_, _, All, All, dStrs (bord Ps T W), rfl, at_strs (k16 _ _ hq3) (by omega), at_strs hq4 (by omega), Nat.le_trans dB (by decide), fun H17 k17 => q H17 (((k014.trans k15).trans k16).trans k17)⟩
end
end K01
namespace K01
open PySem PySem.Spec PyProof.Rows L2 TL HotExc L2H HotLc Tw WX
local macro_rules | `(tactic| walk_at "rd") => `(tactic| simp only [start1, tMethP, tG1, rSetOfS, tDisp, tPairs, rSInK, tAug, ipI, rSortedDS, rInD, rSetXc, rSortedX, tUpd, wipe, isR, isBool, isInt, isStr, isLst, isTup, tAsg, gName, gSub, tVar, tC, tOp, tUn, tTest, tIfS, tRet, tRetN, tDrop, tB, tAnd, tOr, tNot, tAndV, tOrV, tNotV, tIf, tCB, tCons, tNil, tNext, tCall, tBM, tTup, tLst, rU, rInW, rNinW, Int.reduceNeg, tG, tG2, sP, tFldC, sFldC, tProp, tMeth, tMake, rOwnC, rLenO, rIsC, rNoT, tAddT, tSAddK, rSAddK, rSInK, rSet0K, rSet0T, rMinS, rMaxS, rSortedQ, rSortedT, rEqD, rNeD, rIxD, dcL_eq, dcZ_eq, lcO_eq, forE_eq, forT_eq, lcS_eq, ItX.rIterN, iOwn, List.append_nil, tDisp, tPairs, tCallS, tCallSD, tCallT, StX.tStar, tCallK, tCallKS, rTupOf, tDrop, rI0, rI, rEq, rNe, scal, forR_eq, forR2_eq, forS_eq, forL_eq, lcT_eq, lcRT_eq, lcS_eq, rLenX, rLenS, rListOf, tRevL, rMulS, rRepL, rCatL, rSumN, rMaxN, tBM0, rPop, tAug, ipI,  tPart, tNoPart, CwR.tReplC, rAllK, rInSg, rNinSg, sgn_inj, rAddS, rInSt, tChain, tM1, tM0, rSplitN, rJoinN, exists_eq, rIntI, rIntB, rIntS, rStrI, rAbs, rOrd, rMin, rMax, rIxL, rIxX, rSetL, rAppend, rIxS, rSlS, rSlL, tSl, List.map_cons, List.map_nil, List.replicate_succ, List.replicate_zero, List.length_cons, List.length_nil, Nat.reduceSub, Nat.reduceAdd, Nat.zero_add, Nat.sub_self, List.getElem?_cons_zero, List.getElem?_cons_succ, List.set_cons_zero, List.set_cons_succ, List.append_nil, List.nil_append, List.cons_append, Option.some.injEq, not_true_eq_false, reduceCtorEq, exists_eq_left', exists_eq_left, exists_eq', exists_and_left, exists_and_right, V.int.injEq, V.str.injEq, V.bl.injEq, V.ref.injEq, List.cons.injEq, and_true, true_and, and_assoc, decide_eq_true_eq, Bool.not_eq_true', decide_eq_false_iff_not, ite_true, ite_false, if_true, if_false, Bool.not_true, Bool.not_false, Bool.false_eq_true, eq_self_iff_true, reduceIte, ne_eq, Int.reduceEq, not_false_eq_true])
local macro_rules | `(tactic| walk_at "rt") => `(tactic| try walk_at "rd")
local macro_rules | `(tactic| walk_at "st") => `(tactic| (walk_at "rt"; refine r_seq ?_; walk_at "rt"))
local macro_rules | `(tactic| walk_at "hp") => `(tactic| first | assumption | exact upd_same | (rw [upd_ne (by assumption)]; walk_at "hp"))
local macro_rules | `(tactic| walk_at "ex1") => `(tactic| ((with_reducible refine Exists.intro ?w (And.intro ?hx ?_)); (case hx => first | exact sq_of (by walk_at "hp") | exact .inl (sq_of (by walk_at "hp")) | exact rfl | (show _ = some (HO.lst _); walk_at "hp"))))
local macro_rules | `(tactic| walk_at "ex") => `(tactic| repeat (first | walk_at "ex1" | walk_at "rd"))
abbrev s_piecesgood : Stmt := topS 74
theorem sc_piecesgood : FnScope ["web", "made", "due", "told", "lone", "place"] ["web", "made"] (defScope s_piecesgood) := ⟨rfl, rfl, rfl, by decide +kernel, rfl, by decide +kernel, by decide +kernel⟩
def spPcG (C : Addr) : Sp := fun vs H Q _ => ∃ (r m : Addr) (Ps : List Str) (T : List (Str × Str)), vs = [.ref r, .ref m] ∧ LW H r Ps T ∧ Wok Ps T ∧ IsWeb C H m Ps T ∧ ∀ H', Keeps H H' → Q (.bl true) H'
section
variable {P : Program} {w : World} {K : PySem.W.Frag} {mg : Str → Option Value} {base : Heap}
theorem ok_piecesgood {c_Web f f_like f_partsright f_pieces f_lone : Addr} {fd fd_like fd_partsright fd_pieces fd_lone : FuncData} (B : Bi mg) (D : Dn K mg "_law_pieces_good" s_piecesgood ["web", "made"] f fd)
    (D_like : Dn K mg "_law_like" s_like ["one", "two"] f_like fd_like) (D_partsright : Dn K mg "_law_parts_right" s_partsright ["web", "within", "told"] f_partsright fd_partsright)
    (G_like : FnOk P w K mg base CX0 6 f_like fd_like ["one", "two"] (spLike 5)) (G_partsright : FnOk P w K mg base CX0 2 f_partsright fd_partsright ["web", "within", "told"] spPR)
    (CL_Web : Cls K c_Web) (ME_mWeb_pieces : Meth K c_Web "pieces" f_pieces) (B_mWeb_pieces : Binds K fd_pieces ["self"] []) (ME_mWeb_lone : Meth K c_Web "lone" f_lone) (B_mWeb_lone : Binds K fd_lone ["self"] [])
    (G_mWeb_pieces : FnOk P w K mg base CX0 6 f_pieces fd_pieces ["self"] (spPieces c_Web)) (G_mWeb_lone : FnOk P w K mg base CX0 1 f_lone fd_lone ["self"] (spLone c_Web)) : FnOk P w K mg base CX0 8 f fd ["web", "made"] (spPcG c_Web) := by
  refine D.F.ok sc_piecesgood (fun vs H Q E h => ?_) (fun cdv A outer s H vs Q E hr h => ?_)
  · obtain ⟨r, m, Ps, T, rfl, _⟩ := h
    rfl
  · obtain ⟨r, m, Ps, T, rfl, hLW, wok, hWeb, q⟩ := h
    refine ⟨_, (pss_cons (ps_setLc (i := 2) (own := [("place", 5)]) (g := gName 5) (by rfl) sc_piecesgood.nd rfl rfl (sw_true rfl rfl rfl (by decide +kernel)) (pi_listK (K := K) (pe_ix (ix_sxK (K := K)) (pv 0) pe_int (fun _ _ => rfl))) (blkOk_by (own := [("place", 5)]) (N := ["web", "made", "due", "told", "lone", "place"]) (sc := defScope s_piecesgood) (by decide +kernel)) (fun _ _ _ _ _ => pg_name (i := 5) sc_piecesgood.nd rfl (Or.inl rfl)) (fun _ _ _ _ _ => (pts_one (pt_cmpR op_eq (pe_callB (call_lenXK (K := K)) (by rfl) B.len PySem.boot_len (pa_cons (pe_gS (hu_of hr) (pe_ix (ix_sxK (K := K)) (pv 0) pe_int (fun _ _ => rfl)) (pv 5) (fun _ _ => rfl)) pa_nil)) pe_int (nomark _)))) (fun _ _ _ _ _ => (pv 5)))
      (pss_cons (ps_set (i := 3) sc_piecesgood.nd rfl (.inl rfl) (pe_meth0 (pv 1) CL_Web ME_mWeb_pieces G_mWeb_pieces (hr.mono (by omega)) B_mWeb_pieces .nil pass0))
      (pss_cons (ps_set (i := 4) sc_piecesgood.nd rfl (.inl rfl) (pe_meth0 (pv 1) CL_Web ME_mWeb_lone G_mWeb_lone (hr.mono (by omega)) B_mWeb_lone .nil pass0))
      (pss_cons (ps_if (PW.pt (pw_or (pt_not (pt_val (pe_call G_partsright (hr.mono (by omega)) (by rfl) D_partsright.g D_partsright.F.kp D_partsright.b .nil pass0 (pa_cons (pv 0) (pa_cons (pe_ix (ix_sxK (K := K)) (pv 0) pe_int (fun _ _ => rfl)) (pa_cons (pv 3) pa_nil)))))) (pw_or1 (pt_not (pt_val (pe_call G_like (hr.mono (by omega)) (by rfl) D_like.g D_like.F.kp D_like.b .nil pass0 (pa_cons (pv 4) (pa_cons (pv 2) pa_nil)))))))) (pss_one (ps_ret pe_bl)) pss_nil)
      (pss_cons (ps_expr (pe_bm PySem.F.plainAttrs_list PySem.F.slot_list_append PySem.F.type_list_append mt_append (pe_ix (ix_listK (K := K)) (pv 3) pe_int (fun _ _ => rfl)) (pa_cons pe_str pa_nil)))
      (pss_cons (ps_expr (pe_bm PySem.F.plainAttrs_list PySem.F.slot_list_append PySem.F.type_list_append mt_append (pv 3) (pa_cons (pe_lst (pa_cons pe_str pa_nil)) pa_nil)))
      (pss_cons (ps_expr (pe_bm PySem.F.plainAttrs_list PySem.F.slot_list_append PySem.F.type_list_append mt_append (pv 4) (pa_cons pe_str pa_nil)))
      (pss_one (ps_ret (pe_and (pe_call G_partsright (hr.mono (by omega)) (by rfl) D_partsright.g D_partsright.F.kp D_partsright.b .nil pass0 (pa_cons (pv 0) (pa_cons (pe_ix (ix_sxK (K := K)) (pv 0) pe_int (fun _ _ => rfl)) (pa_cons (pe_meth0 (pv 1) CL_Web ME_mWeb_pieces G_mWeb_pieces (hr.mono (by omega)) B_mWeb_pieces .nil pass0) pa_nil)))) (pe_one (pe_call G_like (hr.mono (by omega)) (by rfl) D_like.g D_like.F.kp D_like.b .nil pass0 (pa_cons (pe_meth0 (pv 1) CL_Web ME_mWeb_lone G_mWeb_lone (hr.mono (by omega)) B_mWeb_lone .nil pass0) (pa_cons (pv 2) pa_nil)))))))))))))), ?_⟩
    have F := wok.fit
    have h20 := F.p20
    have h60 := F.e60
    obtain ⟨pa, ta, ⟨nd, hr0, hnd⟩, hpa, htr⟩ := id hLW
    have web : ∀ H', Keeps H H' → SqL K H' r [.ref pa, .ref ta, .ref nd] ∨ SqT K H' r [.ref pa, .ref ta, .ref nd] := fun H' k => .inr (tup_at (k _ _ hr0))
    have sz1 : 1 ≤ sizeLine := Nat.le_of_ble_eq_true rfl
    obtain ⟨kvs, hn, _, hnl⟩ := near_has hnd
    walk_at "st"
    refine ⟨_, web _ (Keeps.refl _), _, rfl, pa, rfl, ⟨_, sq_of hpa⟩, fun Dd nD => ?_⟩
    refine r_lcT (Ps.map V.str) (fun i H' => Keeps H H' ∧ H' Dd = some (.lst ((lonely (Ps.take i) T).map V.str))) (fun _ => rfl) ⟨Keeps.new nD, upd_same⟩ (fun i H' _ h => sq_of (h.1 _ _ hpa)) ?_ ?_
    · rintro i v H' hx ⟨k, hD⟩ N M kN kM
      obtain ⟨z, h1, rfl⟩ := get_map hx
      have hi := lt_of_get h1
      have fs := filter_snoc (p := fun z => decide (nears T z = [])) h1
      have bl : (lonely (Ps.take i) T).length ≤ 20 := by
        refine Nat.le_trans (List.length_filter_le _ _) ?_
        rw [List.length_take]
        omega
      obtain ⟨l, hv, hl⟩ := hnl z (List.mem_of_getElem? h1)
      have e0 : (((sortS (nears T z)).map V.str).length : Int) = 0 ↔ nears T z = [] := by
        rw [List.length_map, (sortS_pm _).length_eq]
        exact ⟨fun h => List.length_eq_zero_iff.mp (by omega), fun h => by rw [h]; rfl⟩
      walk_at "rt"
      refine ⟨_, web _ k, _, rfl, nd, rfl, kvs, k _ _ hn, _, hv, l, rfl, _, .inl (sq_of (k _ _ hl)), ite2 (fun h => ?_) (fun h => ?_)⟩
      · refine kN _ H' _ hD (size_ok (by rw [List.length_map]; omega)) ⟨k.put nD, ?_⟩
        rw [upd_same]
        unfold lonely
        rw [fs, if_pos (decide_eq_true (e0.mp (by simpa using h))), List.map_append]
        rfl
      · refine kM H' ⟨k, ?_⟩
        unfold lonely
        rw [fs, if_neg (fun g => h (by simpa using e0.mpr (of_decide_eq_true g))), List.append_nil]
        exact hD
    rintro H1 ⟨k1, hD⟩
    rw [List.length_map, List.take_length] at hD
    have ll : (lonely Ps T).length ≤ 20 := Nat.le_trans (List.length_filter_le _ _) h20
    have dL := dep_strs' (lonely Ps T)
    walk_at "st"
    obtain ⟨pl1, tl1, nd1, dx1, vs1, WA1⟩ := hWeb.keep k1
    refine ⟨dx1, _, WA1.ob, webF_no _ _ _ (by decide +kernel) (by decide +kernel) (by decide +kernel), m, Ps, T, rfl, hWeb.keep k1, wok.ps, F.pnd, h20, h60, fun qp zs as H2 k2 nqp nas hL hR => ?_⟩
    have k02 := k1.trans k2
    obtain ⟨pl2, tl2, nd2, dx2, vs2, WA2⟩ := hWeb.keep k02
    walk_at "st"
    refine ⟨dx2, _, WA2.ob, webF_no _ _ _ (by decide +kernel) (by decide +kernel) (by decide +kernel), m, Ps, T, rfl, hWeb.keep k02, h20, fun ql H3 k3 nql hql => ?_⟩
    have k03 := k02.trans k3
    have hR3 := hR.keep k3
    walk_at "st"
    refine ⟨_, web _ k03, _, rfl, r, pa, qp, Ps, T, Ps, zs, as, rfl, hLW.keep k03, wok, k03 _ _ hpa, by omega, fun y h => h, hL, hR3, fun H4 k4 => ⟨true, rfl, ?_⟩⟩
    simp only [Bool.true_eq_false, if_false]
    have k04 := k03.trans k4
    have hD3 := k3 _ _ (k2 _ _ hD)
    refine ⟨_, _, All, All, dStrs (lonely Ps T), rfl, at_strs (k4 _ _ hql) (by omega), at_strs (k4 _ _ hD3) (by omega), Nat.le_trans dL (by decide), fun H5 k5 => ⟨true, rfl, ?_⟩⟩
    simp only [Bool.true_eq_false, if_false]
    have k05 := k04.trans k5
    have k35 := k4.trans k5
    have hR5 := hR3.keep k35
    have hql5 := k35 _ _ hql
    have hD5 := k35 _ _ hD3
    obtain ⟨n0, hn0⟩ : ∃ n0, Ps[0]? = some n0 := ⟨_, List.getElem?_eq_getElem (List.length_pos_iff.mpr F.ne)⟩
    obtain ⟨z0, hz0, _⟩ := hL.cov n0 (List.mem_of_getElem? hn0)
    have zl : zs.length ≤ 20 := Nat.le_trans (nd_len zs Ps hL.nd fun z hz => hL.mem z hz) h20
    have asl : as.length = zs.length := by rw [hR.len, List.length_map]
    have a0l : 0 < as.length := by rw [asl]; exact List.length_pos_of_mem hz0
    obtain ⟨a0, ha0⟩ : ∃ a0, as[0]? = some a0 := ⟨_, List.getElem?_eq_getElem a0l⟩
    obtain ⟨g0, hg0⟩ : ∃ g0, (zs.map (grp Ps T Ps))[0]? = some g0 := ⟨_, List.getElem?_eq_getElem (hR.len ▸ a0l)⟩
    have hrow := hR5.row 0 a0 g0 ha0 hg0
    have gl : g0.length ≤ 20 := by
      obtain ⟨z, _, rfl⟩ := List.mem_map.mp (List.mem_of_getElem? hg0)
      exact Nat.le_trans grp_len h20
    have ha0m := List.mem_of_getElem? ha0
    have na0 := nas a0 ha0m
    have ata : atI (as.map V.ref) 0 = some (.ref a0) := atI_nat (j := 0) (by rw [List.getElem?_map, ha0]; rfl)
    have qp_a0 : qp ≠ a0 := fun e => hR.no (e ▸ ha0m)
    have row2 := hR.row 0 a0 g0 ha0 hg0
    have ql_a0 : ql ≠ a0 := fun e => by rw [← e, nql] at row2; cases row2
    have ql_qp : ql ≠ qp := fun e => by rw [e, hR.top] at nql; cases nql
    have D_a0 : Dd ≠ a0 := fun e => by rw [e, na0] at hD; cases hD
    have D_qp : Dd ≠ qp := fun e => by rw [e, nqp] at hD; cases hD
    have D_ql : Dd ≠ ql := fun e => by rw [← e, k2 _ _ hD] at nql; cases nql
    have na00 := k1.free na0
    have nqp0 := k1.free nqp
    have nql0 := k02.free nql
    walk_at "st"
    refine ⟨_, sq_of hR5.top, _, ata, .inl ⟨rfl, _, sq_of hrow⟩, a0, rfl, _, hrow, size_ok (by rw [List.length_map]; omega), ?_⟩
    have k06 : Keeps H (L2.upd H5 a0 (.lst (g0.map V.str ++ [.str (Str.ofString "a")]))) := k05.put na00
    have hq6 := (upd_ne (o := .lst (g0.map V.str ++ [.str (Str.ofString "a")])) qp_a0).trans hR5.top
    have hl6 := (upd_ne (o := .lst (g0.map V.str ++ [.str (Str.ofString "a")])) ql_a0).trans hql5
    have hD6 := (upd_ne (o := .lst (g0.map V.str ++ [.str (Str.ofString "a")])) D_a0).trans hD5
    generalize L2.upd H5 a0 (.lst (g0.map V.str ++ [.str (Str.ofString "a")])) = H6 at *
    walk_at "st"
    refine ⟨.inl ⟨rfl, _, sq_of hq6⟩, sz1, fun lb nlb => ⟨_, (Keeps.new nlb) _ _ hq6, size_ok (by rw [List.length_map]; omega), ?_⟩⟩
    have k07 : Keeps H (L2.upd (L2.upd H6 lb (.lst [.str (Str.ofString "b")])) qp (.lst (as.map V.ref ++ [.ref lb]))) := (k06.trans (Keeps.new nlb)).put nqp0
    have hl7 : L2.upd (L2.upd H6 lb (.lst [.str (Str.ofString "b")])) qp (.lst (as.map V.ref ++ [.ref lb])) ql = _ := (upd_ne ql_qp).trans ((Keeps.new nlb) _ _ hl6)
    have hD7 : L2.upd (L2.upd H6 lb (.lst [.str (Str.ofString "b")])) qp (.lst (as.map V.ref ++ [.ref lb])) Dd = _ := (upd_ne D_qp).trans ((Keeps.new nlb) _ _ hD6)
    generalize L2.upd (L2.upd H6 lb (.lst [.str (Str.ofString "b")])) qp (.lst (as.map V.ref ++ [.ref lb])) = H7 at *
    walk_at "st"
    refine ⟨.inl ⟨rfl, _, sq_of hl7⟩, _, hl7, size_ok (by rw [List.length_map]; omega), ?_⟩
    have k08 : Keeps H (L2.upd H7 ql (.lst ((lonely Ps T).map V.str ++ [.str (Str.ofString "a")]))) := k07.put nql0
    have hD8 := (upd_ne (o := .lst ((lonely Ps T).map V.str ++ [.str (Str.ofString "a")])) D_ql).trans hD7
    generalize L2.upd H7 ql (.lst ((lonely Ps T).map V.str ++ [.str (Str.ofString "a")])) = H8 at *
    obtain ⟨pl3, tl3, nd3, dx3, vs3, WA3⟩ := hWeb.keep k08
    walk_at "rt"
    refine ⟨_, web _ k08, _, rfl, dx3, _, WA3.ob, webF_no _ _ _ (by decide +kernel) (by decide +kernel) (by decide +kernel), m, Ps, T, rfl, hWeb.keep k08, wok.ps, F.pnd, h20, h60, fun q2 zs2 as2 H9 k9 nq2 na2 hL2 hR2 => ⟨r, pa, q2, Ps, T, Ps, zs2, as2, rfl, hLW.keep (k08.trans k9), wok, (k08.trans k9) _ _ hpa, by omega, fun y h => h, hL2, hR2, fun H10 k10 => ⟨true, rfl, ?_⟩⟩⟩
    rw [if_pos rfl]
    have k810 := k9.trans k10
    have k010 := k08.trans k810
    obtain ⟨pl4, tl4, nd4, dx4, vs4, WA4⟩ := hWeb.keep k010
    exact ⟨dx4, _, WA4.ob, webF_no _ _ _ (by decide +kernel) (by decide +kernel) (by decide +kernel), m, Ps, T, rfl, hWeb.keep k010, h20, fun q3 H11 k11 nq3 hq3 => ⟨_, _, All, All, dStrs (lonely Ps T), rfl, at_strs hq3 (by omega), at_strs (k11 _ _ (k810 _ _ hD8)) (by omega), Nat.le_trans dL (by decide), fun H12 k12 => q H12 ((k010.trans k11).trans k12)⟩⟩
end
end K01
namespace K01
open PySem PySem.Spec PyProof.Rows L2 TL HotExc L2H HotLc Tw WX
local macro_rules | `(tactic| walk_at "rd") => `(tactic| simp only [start1, tMethP, tG1, rSetOfS, tDisp, tPairs, rSInK, tAug, ipI, rSortedDS, rInD, rSetXc, rSortedX, tUpd, wipe, isR, isBool, isInt, isStr, isLst, isTup, tAsg, gName, gSub, tVar, tC, tOp, tUn, tTest, tIfS, tRet, tRetN, tDrop, tB, tAnd, tOr, tNot, tAndV, tOrV, tNotV, tIf, tCB, tCons, tNil, tNext, tCall, tBM, tTup, tLst, rU, rInW, rNinW, Int.reduceNeg, tG, tG2, sP, tFldC, sFldC, tProp, tMeth, tMake, rOwnC, rLenO, rIsC, rNoT, tAddT, tSAddK, rSAddK, rSInK, rSet0K, rSet0T, rMinS, rMaxS, rSortedQ, rSortedT, rEqD, rNeD, rIxD, dcL_eq, dcZ_eq, lcO_eq, forE_eq, forT_eq, lcS_eq, ItX.rIterN, iOwn, List.append_nil, tDisp, tPairs, tCallS, tCallSD, tCallT, StX.tStar, tCallK, tCallKS, rTupOf, tDrop, rI0, rI, rEq, rNe, scal, forR_eq, forR2_eq, forS_eq, forL_eq, lcT_eq, lcRT_eq, lcS_eq, rLenX, rLenS, rListOf, tRevL, rMulS, rRepL, rCatL, rSumN, rMaxN, tBM0, rPop, tAug, ipI,  tPart, tNoPart, CwR.tReplC, rAllK, rInSg, rNinSg, sgn_inj, rAddS, rInSt, tChain, tM1, tM0, rSplitN, rJoinN, exists_eq, rIntI, rIntB, rIntS, rStrI, rAbs, rOrd, rMin, rMax, rIxL, rIxX, rSetL, rAppend, rIxS, rSlS, rSlL, tSl, List.map_cons, List.map_nil, List.replicate_succ, List.replicate_zero, List.length_cons, List.length_nil, Nat.reduceSub, Nat.reduceAdd, Nat.zero_add, Nat.sub_self, List.getElem?_cons_zero, List.getElem?_cons_succ, List.set_cons_zero, List.set_cons_succ, List.append_nil, List.nil_append, List.cons_append, Option.some.injEq, not_true_eq_false, reduceCtorEq, exists_eq_left', exists_eq_left, exists_eq', exists_and_left, exists_and_right, V.int.injEq, V.str.injEq, V.bl.injEq, V.ref.injEq, List.cons.injEq, and_true, true_and, and_assoc, decide_eq_true_eq, Bool.not_eq_true', decide_eq_false_iff_not, ite_true, ite_false, if_true, if_false, Bool.not_true, Bool.not_false, Bool.false_eq_true, eq_self_iff_true, reduceIte, ne_eq, Int.reduceEq, not_false_eq_true])
local macro_rules | `(tactic| walk_at "rt") => `(tactic| try walk_at "rd")
local macro_rules | `(tactic| walk_at "st") => `(tactic| (walk_at "rt"; refine r_seq ?_; walk_at "rt"))
local macro_rules | `(tactic| walk_at "hp") => `(tactic| first | assumption | exact upd_same | (rw [upd_ne (by assumption)]; walk_at "hp"))
local macro_rules | `(tactic| walk_at "ex1") => `(tactic| ((with_reducible refine Exists.intro ?w (And.intro ?hx ?_)); (case hx => first | exact sq_of (by walk_at "hp") | exact .inl (sq_of (by walk_at "hp")) | exact rfl | (show _ = some (HO.lst _); walk_at "hp"))))
local macro_rules | `(tactic| walk_at "ex") => `(tactic| repeat (first | walk_at "ex1" | walk_at "rd"))
abbrev s_law : Stmt := topS 75
theorem sc_law : FnScope ["script", "store", "web", "less", "pair", "both", "rows", "row", "one"] ["script"] (defScope s_law) := ⟨rfl, rfl, rfl, by decide +kernel, rfl, by decide +kernel, by decide +kernel⟩
section
variable {P : Program} {w : World} {K : PySem.W.Frag} {mg : Str → Option Value} {base : Heap}
theorem ok_law {c_Web f f_store f_size f_websized f_webargs f_webof f_some f_within f_withodd f_pick f_setgood f_piecesgood f_iWeb : Addr} {fd fd_store fd_size fd_websized fd_webargs fd_webof fd_some fd_within fd_withodd fd_pick fd_setgood fd_piecesgood fd_iWeb : FuncData} (B : Bi mg) (D : Dn K mg "law" s_law ["script"] f fd)
    (D_store : Dn K mg "_law_store" s_store ["script"] f_store fd_store) (G_store : FnOk P w K mg base CX0 1 f_store fd_store ["script"] (spStore K))
    (D_size : Dn K mg "_law_size" s_size ["store", "low", "high"] f_size fd_size) (G_size : FnOk P w K mg base CX0 3 f_size fd_size ["store", "low", "high"] spRange)
    (D_websized : Dn K mg "_law_web_sized" s_websized ["store", "many", "bound", "taken"] f_websized fd_websized) (G_websized : FnOk P w K mg base CX0 7 f_websized fd_websized ["store", "many", "bound", "taken"] spWebSized)
    (D_webargs : Dn K mg "_law_web_args" s_webargs ["store", "web"] f_webargs fd_webargs) (G_webargs : FnOk P w K mg base CX0 4 f_webargs fd_webargs ["store", "web"] spWebArgs)
    (D_webof : Dn K mg "_law_web_of" s_webof ["places", "ties"] f_webof fd_webof) (G_webof : FnOk P w K mg base CX0 2 f_webof fd_webof ["places", "ties"] spWebOf)
    (D_some : Dn K mg "_law_some" s_some ["store", "row"] f_some fd_some) (G_some : FnOk P w K mg base CX0 4 f_some fd_some ["store", "row"] spSome)
    (D_within : Dn K mg "_law_within" s_within ["store", "web"] f_within fd_within) (G_within : FnOk P w K mg base CX0 6 f_within fd_within ["store", "web"] spWithin)
    (D_withodd : Dn K mg "_law_with_odd" s_withodd ["store", "places", "row"] f_withodd fd_withodd) (G_withodd : FnOk P w K mg base CX0 8 f_withodd fd_withodd ["store", "places", "row"] spWithOdd)
    (D_pick : Dn K mg "_law_pick" s_pick ["store", "row"] f_pick fd_pick) (G_pickL : FnOk P w K mg base CX0 3 f_pick fd_pick ["store", "row"] spPickL)
    (D_setgood : Dn K mg "_law_set_good" s_setgood ["web", "made", "within"] f_setgood fd_setgood) (G_setgood : FnOk P w K mg base CX0 8 f_setgood fd_setgood ["web", "made", "within"] (spSG c_Web))
    (D_piecesgood : Dn K mg "_law_pieces_good" s_piecesgood ["web", "made"] f_piecesgood fd_piecesgood) (G_piecesgood : FnOk P w K mg base CX0 8 f_piecesgood fd_piecesgood ["web", "made"] (spPcG c_Web))
    (gc_Web : mg "Web" = some (.ref c_Web)) (MK_Web : Mk K c_Web f_iWeb) (G_iWeb : FnOk P w K mg base CX0 3 f_iWeb fd_iWeb ["self", "places", "ties"] (spInW c_Web)) (B_iWeb : Binds K fd_iWeb ["self", "places", "ties"] []) : FnOk P w K mg base CX0 10 f fd ["script"] (spLaw K) := by
  refine D.F.ok sc_law (fun vs H Q E h => ?_) (fun cdv A outer s H vs Q E hr h => ?_)
  · obtain ⟨a, ns, rfl, _⟩ := h
    rfl
  · obtain ⟨sa, ns, rfl, hs, hl, q⟩ := h
    refine ⟨_, (pss_cons (ps_set (i := 1) sc_law.nd rfl (.inl rfl) (pe_call G_store (hr.mono (by omega)) (by rfl) D_store.g D_store.F.kp D_store.b .nil pass0 (pa_cons (pv 0) pa_nil)))
      (pss_cons (ps_set (i := 2) sc_law.nd rfl (.inl rfl) (pe_call G_websized (hr.mono (by omega)) (by rfl) D_websized.g D_websized.F.kp D_websized.b .nil pass0 (pa_cons (pv 1) (pa_cons (pe_call G_size (hr.mono (by omega)) (by rfl) D_size.g D_size.F.kp D_size.b .nil pass0 (pa_cons (pv 1) (pa_cons pe_int (pa_cons pe_int pa_nil)))) (pa_cons pe_int (pa_cons (pe_lst pa_nil) pa_nil))))))
      (pss_cons (ps_set (i := 3) sc_law.nd rfl (.inl rfl) (pe_call G_webof (hr.mono (by omega)) (by rfl) D_webof.g D_webof.F.kp D_webof.b .nil pass0 (pa_cons (pe_ix (ix_sxK (K := K)) (pv 2) pe_int (fun _ _ => rfl)) (pa_cons (pe_call G_some (hr.mono (by omega)) (by rfl) D_some.g D_some.F.kp D_some.b .nil pass0 (pa_cons (pv 1) (pa_cons (pe_ix (ix_sxK (K := K)) (pv 2) pe_int (fun _ _ => rfl)) pa_nil))) pa_nil))))
      (pss_cons (ps_set (i := 4) sc_law.nd rfl (.inl rfl) (pe_call G_webargs (hr.mono (by omega)) (by rfl) D_webargs.g D_webargs.F.kp D_webargs.b .nil pass0 (pa_cons (pv 1) (pa_cons (pv 2) pa_nil))))
      (pss_cons (ps_set (i := 5) sc_law.nd rfl (.inl rfl) (pe_lst (pa_cons (pe_tup (pa_cons (pv 2) (pa_cons (pe_make MK_Web G_iWeb (hr.mono (by omega)) (by rfl) gc_Web B_iWeb .nil pass0 (pa_cons (pe_ix (ix_sxK (K := K)) (pv 4) pe_int (fun _ _ => rfl)) (pa_cons (pe_ix (ix_sxK (K := K)) (pv 4) pe_int (fun _ _ => rfl)) pa_nil))) pa_nil))) (pa_cons (pe_tup (pa_cons (pv 3) (pa_cons (pe_make MK_Web G_iWeb (hr.mono (by omega)) (by rfl) gc_Web B_iWeb .nil pass0 (pa_cons (pe_callTy (call_listK (K := K)) (by rfl) B.list_ (by decide +kernel) (pa_cons (pe_ix (ix_sxK (K := K)) (pv 3) pe_int (fun _ _ => rfl)) pa_nil)) (pa_cons (pe_callTy (call_listK (K := K)) (by rfl) B.list_ (by decide +kernel) (pa_cons (pe_ix (ix_sxK (K := K)) (pv 3) pe_int (fun _ _ => rfl)) pa_nil)) pa_nil))) pa_nil))) pa_nil))))
      (pss_cons (ps_set (i := 6) sc_law.nd rfl (.inl rfl) (pe_lst (pa_cons (pe_call G_within (hr.mono (by omega)) (by rfl) D_within.g D_within.F.kp D_within.b .nil pass0 (pa_cons (pv 1) (pa_cons (pv 2) pa_nil))) (pa_cons (pe_lst pa_nil) (pa_cons (pe_callTy (call_listK (K := K)) (by rfl) B.list_ (by decide +kernel) (pa_cons (pe_ix (ix_sxK (K := K)) (pv 2) pe_int (fun _ _ => rfl)) pa_nil)) (pa_cons (pe_lst (pa_cons (pe_call G_pickL (hr.mono (by omega)) (by rfl) D_pick.g D_pick.F.kp D_pick.b .nil pass0 (pa_cons (pv 1) (pa_cons (pe_ix (ix_sxK (K := K)) (pv 2) pe_int (fun _ _ => rfl)) pa_nil))) pa_nil)) pa_nil))))))
      (pss_cons (ps_set (i := 6) sc_law.nd rfl (.inl rfl) (pe_op op_catL (pv 6) (pe_lst (pa_cons (pe_call G_withodd (hr.mono (by omega)) (by rfl) D_withodd.g D_withodd.F.kp D_withodd.b .nil pass0 (pa_cons (pv 1) (pa_cons (pe_ix (ix_sxK (K := K)) (pv 2) pe_int (fun _ _ => rfl)) (pa_cons (pe_ix (ix_listK (K := K)) (pv 6) pe_int (fun _ _ => rfl)) pa_nil)))) (pa_cons (pe_call G_within (hr.mono (by omega)) (by rfl) D_within.g D_within.F.kp D_within.b .nil pass0 (pa_cons (pv 1) (pa_cons (pv 2) pa_nil))) (pa_cons (pe_call G_withodd (hr.mono (by omega)) (by rfl) D_withodd.g D_withodd.F.kp D_withodd.b .nil pass0 (pa_cons (pv 1) (pa_cons (pe_ix (ix_sxK (K := K)) (pv 2) pe_int (fun _ _ => rfl)) (pa_cons (pe_ix (ix_sxK (K := K)) (pv 2) pe_int (fun _ _ => rfl)) pa_nil)))) pa_nil))))))
      (pss_cons (ps_for PassesOwn.never rfl (pi_listK (K := K) (pv 6)) (pg_name (i := 7) sc_law.nd rfl (.inl rfl)) (pss_one (ps_for PassesOwn.never rfl (pi_listK (K := K) (pv 5)) (pg_name (i := 8) sc_law.nd rfl (.inl rfl)) (pss_one (ps_if (pt_not (pt_val (pe_call G_setgood (hr.mono (by omega)) (by rfl) D_setgood.g D_setgood.F.kp D_setgood.b .nil pass0 (pa_cons (pe_ix (ix_sxK (K := K)) (pv 8) pe_int (fun _ _ => rfl)) (pa_cons (pe_ix (ix_sxK (K := K)) (pv 8) pe_int (fun _ _ => rfl)) (pa_cons (pe_callTy (call_listK (K := K)) (by rfl) B.list_ (by decide +kernel) (pa_cons (pv 7) pa_nil)) pa_nil)))))) (pss_one (ps_ret pe_bl)) pss_nil)))))
      (pss_one (ps_ret (pe_and (pe_call G_piecesgood (hr.mono (by omega)) (by rfl) D_piecesgood.g D_piecesgood.F.kp D_piecesgood.b .nil pass0 (pa_cons (pe_ix (ix_sxK (K := K)) (pe_ix (ix_listK (K := K)) (pv 5) pe_int (fun _ _ => rfl)) pe_int (fun _ _ => rfl)) (pa_cons (pe_ix (ix_sxK (K := K)) (pe_ix (ix_listK (K := K)) (pv 5) pe_int (fun _ _ => rfl)) pe_int (fun _ _ => rfl)) pa_nil))) (pe_one (pe_call G_piecesgood (hr.mono (by omega)) (by rfl) D_piecesgood.g D_piecesgood.F.kp D_piecesgood.b .nil pass0 (pa_cons (pe_ix (ix_sxK (K := K)) (pe_ix (ix_listK (K := K)) (pv 5) pe_int (fun _ _ => rfl)) pe_int (fun _ _ => rfl)) (pa_cons (pe_ix (ix_sxK (K := K)) (pe_ix (ix_listK (K := K)) (pv 5) pe_int (fun _ _ => rfl)) pe_int (fun _ _ => rfl)) pa_nil))))))))))))))), ?_⟩
    walk_at "st"
    refine ⟨sa, ns, rfl, hs, hl, fun a c H1 same na S1 => ?_⟩
    walk_at "st"
    refine ⟨a, c, 1, 20, rfl, S1, by decide, by decide, fun v H1s S1s b1s ⟨m0, e, m1, m2⟩ => ?_⟩
    subst e
    obtain ⟨many, rfl⟩ : ∃ n : Nat, m0 = (n : Int) := ⟨m0.toNat, by omega⟩
    refine ⟨Nat.zero_le _, fun ep nep => ⟨a, c, ep, many, 60, [], rfl, S1s.new nep, upd_same, by omega, by omega, by decide, by decide, by decide, fun rw_ Ps T H2 S2 b2 nrw hw wok _ _ => ?_⟩⟩
    have F := wok.fit
    obtain ⟨pa, ta, ⟨nv, hr0, hnv⟩, hpa, tvs, hta, htt⟩ := id hw
    have web : ∀ H', But a H2 H' → SqL K H' rw_ [.ref pa, .ref ta, .ref nv] ∨ SqT K H' rw_ [.ref pa, .ref ta, .ref nv] := fun H' b => .inr (tup_at (b _ _ (S2.nT hr0) hr0))
    have bi : But a H2 H2 := fun _ _ _ h => h
    walk_at "st"
    refine ⟨_, web _ bi, _, rfl, _, web _ bi, _, rfl, a, c, ta, tvs, rfl, S2, hta, S2.nP hta htt, by rw [htt.1]; have := F.e60; omega, fun sl ys H3 S3 b3 nsl hsl hsub => ?_⟩
    obtain ⟨E1, hE1, hP1⟩ := (htt.but S2 b3).sub hsub
    have F1 := F.sub hE1
    have hpa3 := b3 _ _ (S2.nS hpa) hpa
    refine ⟨pa, sl, Ps, E1, rfl, ⟨hpa3, ys, hsl, hP1⟩, F1.p20, F1.e60, F1.inP, fun rl H4 k4 nrl hless => ?_⟩
    have S4 := Keeps.store S3 k4
    have b4 := b3.trans (Keeps.but (a := a) k4)
    rw [wok.ps] at hless
    have wok1 := Wok.of F1
    rw [wok.ps] at wok1
    generalize sortP (E1.map ordP) = T1 at hless wok1
    walk_at "st"
    refine ⟨a, c, rw_, Ps, T, rfl, S4, hw.but S2 b4, F.p20, F.e60, fun q2 p2 t2 Ps' Ea H5 S5 b5 nq hq hA hpm hem => ?_⟩
    have b25 := b4.trans b5
    have hw5 := hw.but S2 b25
    have hl5 := hless.but S4 b5
    walk_at "st"
    obtain ⟨Fp, sp1, sp2⟩ := wok.perm hpm (hem.trans (.of_eq wok.to))
    have sq2 : SqL K H5 q2 [.ref p2, .ref t2] ∨ SqT K H5 q2 [.ref p2, .ref t2] := .inr (tup_at hq)
    have sz : ∀ n, n ≤ 10 → n ≤ sizeLine := fun n h => by rw [PySem.sizeLine_eq]; omega
    refine ⟨_, sq2, _, rfl, _, sq2, _, rfl, fun m1 d1 nm1 nd1 ne1 => mk_web nm1 nd1 ne1 hA Fp fun H6 k6 hm1 => ?_⟩
    rw [sp1, sp2] at hm1
    refine ⟨sz _ (by decide), fun t1 nt1 => ?_⟩
    have kt1 : Keeps H6 (L2.upd H6 t1 (.tup [.ref rw_, .ref m1])) := Keeps.new nt1
    have ht1 : L2.upd H6 t1 (.tup [.ref rw_, .ref m1]) t1 = some (.tup [.ref rw_, .ref m1]) := upd_same
    have k7 := k6.trans kt1
    have hm1 := hm1.keep kt1
    generalize L2.upd H6 t1 (.tup [.ref rw_, .ref m1]) = H7 at *
    have hw7 := hw5.keep k7
    have hl7 := hl5.keep k7
    obtain ⟨pa1, ta1, ⟨nv1, hr1, _⟩, hpa1, tv1, hta1, htt1⟩ := id hl7
    have web1 : ∀ H', Keeps H7 H' → SqL K H' rl [.ref pa1, .ref ta1, .ref nv1] ∨ SqT K H' rl [.ref pa1, .ref ta1, .ref nv1] := fun H' k => .inr (tup_at (k _ _ hr1))
    refine ⟨_, web1 _ (Keeps.refl _), _, rfl, pa1, rfl, _, .inl (sq_of hpa1), fun l1 nl1 => ?_⟩
    have kl1 : Keeps H7 (L2.upd H7 l1 (.lst (Ps.map V.str))) := Keeps.new nl1
    refine ⟨_, web1 _ kl1, _, rfl, ta1, rfl, _, .inl (sq_of (kl1 _ _ hta1)), fun l2 nl2 => ?_⟩
    have kl2 : Keeps (L2.upd H7 l1 (.lst (Ps.map V.str))) (L2.upd (L2.upd H7 l1 (.lst (Ps.map V.str))) l2 (.lst tv1)) := Keeps.new nl2
    have A2 : Args (L2.upd (L2.upd H7 l1 (.lst (Ps.map V.str))) l2 (.lst tv1)) l1 l2 Ps T1 := ⟨kl2 _ _ upd_same, tv1, upd_same, htt1.keeps (kl1.trans kl2)⟩
    have k8 := kl1.trans kl2
    generalize L2.upd (L2.upd H7 l1 (.lst (Ps.map V.str))) l2 (.lst tv1) = H8 at *
    refine fun m2 d2 nm2 nd2 ne2 => mk_web nm2 nd2 ne2 A2 wok1.fit fun H9 k9 hm2 => ?_
    rw [wok1.ps, wok1.to, wok1.ts] at hm2
    refine ⟨sz _ (by decide), fun t2' nt2 => ⟨sz _ (by decide), fun lb nlb => ?_⟩⟩
    have ka : Keeps H9 (L2.upd H9 t2' (.tup [.ref rl, .ref m2])) := Keeps.new nt2
    have kb : Keeps (L2.upd H9 t2' (.tup [.ref rl, .ref m2])) (L2.upd (L2.upd H9 t2' (.tup [.ref rl, .ref m2])) lb (.lst [.ref t1, .ref t2'])) := Keeps.new nlb
    have k89 := k8.trans k9
    have k79 := (k89.trans ka).trans kb
    have S10 := Keeps.store S5 (k7.trans k79)
    have two : Two c_Web (L2.upd (L2.upd H9 t2' (.tup [.ref rl, .ref m2])) lb (.lst [.ref t1, .ref t2'])) lb rw_ rl Ps T T1 :=
      ⟨hw7.keep k79, hl7.keep k79, wok, wok1, t1, t2', m1, m2, upd_same, k79 _ _ ht1, kb _ _ upd_same, hm1.keep k79, (hm2.keep ka).keep kb⟩
    generalize L2.upd (L2.upd H9 t2' (.tup [.ref rl, .ref m2])) lb (.lst [.ref t1, .ref t2']) = J0 at *
    clear S1 S2 S3 S4 S5 b2 b3 b4 b5 b25 web web1 bi hw hw5 hw7 hl5 hl7 hm1 hm2 ka kb k89 k79 k9 k8 kl1 kl2 A2 hta1 htt1 hpa1 hr1 hta htt hpa hr0 hnv hP1 hE1 F1 k7 kt1 k6 hA hq sq2 hless k4 hpa3 hsl hsub
    clear S1s b1s nep
    have names : ∀ z ∈ Ps, nm (tl z) := fun z hz => F.nam z hz
    have short : ∀ z ∈ Ps, z.length ≤ 60 := fun z hz => by
      have := okd_len (.inr (names z hz))
      rw [len_tl]
      omega
    have p20 := F.p20
    have sz2 : ∀ {n : Nat}, n ≤ 1000 → n ≤ sizeLine := fun h => Nat.le_of_lt (size_ok (by omega))
    walk_at "st"
    refine ⟨a, c, rw_, Ps, T, rfl, S10, two.web, F.p20, F.e60, fun w0 W0 J1 S11 b11 nw0 hw0 hin0 hl0 => ?_⟩
    have two1 := two.but S10 b11
    obtain ⟨pa, ta, ⟨nv, hr0, _⟩, hpa, _⟩ := two1.web
    have web : ∀ H', But a J1 H' → SqL K H' rw_ [.ref pa, .ref ta, .ref nv] ∨ SqT K H' rw_ [.ref pa, .ref ta, .ref nv] := fun H' b => .inr (tup_at (b _ _ (S11.nT hr0) hr0))
    refine ⟨sz2 (by omega), fun w1 nw1 => ?_⟩
    have k1 := Keeps.new (x := .lst []) nw1
    refine ⟨_, web _ (Keeps.but k1), _, rfl, pa, rfl, _, .inl (sq_of (k1 _ _ hpa)), fun w2 nw2 => ?_⟩
    have k2 := k1.trans (Keeps.new (x := .lst (Ps.map V.str)) nw2)
    have hw1 := (Keeps.new (x := .lst (Ps.map V.str)) nw2) w1 _ upd_same
    have hw2 : L2.upd (L2.upd J1 w1 (.lst [])) w2 (.lst (Ps.map V.str)) w2 = some (.lst (Ps.map V.str)) := upd_same
    have S12 := Keeps.store S11 k2
    generalize L2.upd (L2.upd J1 w1 (.lst [])) w2 (.lst (Ps.map V.str)) = J2 at *
    refine ⟨_, web _ (Keeps.but k2), _, rfl, a, c, pa, Ps.map V.str, rfl, S12, k2 _ _ hpa, S12.nS (k2 _ _ hpa), by simpa using F.ne, by rw [List.length_map]; omega, fun v J3 S13 b13 hv => ?_⟩
    obtain ⟨z3, hz3, rfl⟩ := List.mem_map.mp hv
    have hw0 := b13 _ _ (S12.nS (k2 _ _ hw0)) (k2 _ _ hw0)
    have hw1 := b13 _ _ (S12.nS (ws := []) hw1) hw1
    have hw2 := b13 _ _ (S12.nS hw2) hw2
    have b03 : But a J1 J3 := (Keeps.but k2).trans b13
    refine ⟨sz2 (by omega), fun w3 nw3 => ⟨sz2 (by decide), fun lr nlr => ?_⟩⟩
    have k3 := Keeps.new (x := .lst [.str z3]) nw3
    have k4 := Keeps.new (x := .lst [.ref w0, .ref w1, .ref w2, .ref w3]) nlr
    have k34 := k3.trans k4
    have hw3 := k4 w3 _ upd_same
    have hlr : L2.upd (L2.upd J3 w3 (.lst [.str z3])) lr (.lst [.ref w0, .ref w1, .ref w2, .ref w3]) lr = some (.lst [.ref w0, .ref w1, .ref w2, .ref w3]) := upd_same
    have hw0 := k34 _ _ hw0
    have hw1 := k34 _ _ hw1
    have hw2 := k34 _ _ hw2
    have S14 := Keeps.store S13 k34
    have b04 : But a J1 _ := b03.trans (Keeps.but k34)
    generalize L2.upd (L2.upd J3 w3 (.lst [.str z3])) lr (.lst [.ref w0, .ref w1, .ref w2, .ref w3]) = J4 at *
    have hpa4 := b04 _ _ (S11.nS hpa) hpa
    walk_at "st"
    refine ⟨_, web _ b04, _, rfl, _, sq_of hlr, _, rfl, a, c, pa, w0, Ps, W0, rfl, S14, hpa4, hw0, F.ne, by omega, names, by omega, fun z hz => short z (hin0 z hz), fun w4 W4 J5 S15 b15 nw4 hw4 _ _ hl4 => ?_⟩
    have b05 := b04.trans b15
    have two5 := two1.but S11 b05
    refine ⟨a, c, rw_, Ps, T, rfl, S15, two5.web, F.p20, F.e60, fun w5 W5 J6 S16 b16 nw5 hw5 _ hl5 => ?_⟩
    have b06 := b05.trans b16
    have hpa6 := b06 _ _ (S11.nS hpa) hpa
    refine ⟨_, web _ b06, _, rfl, _, web _ b06, _, rfl, a, c, pa, pa, Ps, Ps, rfl, S16, hpa6, hpa6, F.ne, by omega, names, by omega, short, fun w6 W6 J7 S17 b17 nw6 hw6 _ _ hl6 => ?_⟩
    have b07 := b06.trans b17
    have b47 := (b15.trans b16).trans b17
    have hlr7 := b47 _ _ (S14.n4 hlr) hlr
    have hw07 := b47 _ _ (S14.nS hw0) hw0
    have hw17 := b47 _ _ (S14.nS (ws := []) hw1) hw1
    have hw27 := b47 _ _ (S14.nS hw2) hw2
    have hw37 := b47 _ _ (S14.nS (ws := [z3]) hw3) hw3
    have hw47 := (b16.trans b17) _ _ (S15.nS hw4) hw4
    have hw57 := b17 _ _ (S16.nS hw5) hw5
    have two7 := two1.but S11 b07
    refine ⟨sz2 (by omega), fun l2 nl2 => ⟨_, (Keeps.new nl2) _ _ hlr7, _, upd_same, sz2 (by simp), fun l3 nl3 => ?_⟩⟩
    have kJ := (Keeps.new (x := .lst [.ref w4, .ref w5, .ref w6]) nl2).trans (Keeps.new (x := .lst ([.ref w0, .ref w1, .ref w2, .ref w3] ++ [.ref w4, .ref w5, .ref w6])) nl3)
    have two := two7.keep kJ
    have hl3 : L2.upd (L2.upd J7 l2 (.lst [.ref w4, .ref w5, .ref w6])) l3 (.lst ([.ref w0, .ref w1, .ref w2, .ref w3] ++ [.ref w4, .ref w5, .ref w6])) l3 = some (.lst [.ref w0, .ref w1, .ref w2, .ref w3, .ref w4, .ref w5, .ref w6]) := upd_same
    have hw0 := kJ _ _ hw07
    have hw1 := kJ _ _ hw17
    have hw2 := kJ _ _ hw27
    have hw3 := kJ _ _ hw37
    have hw4 := kJ _ _ hw47
    have hw5 := kJ _ _ hw57
    have hw6 := kJ _ _ hw6
    generalize L2.upd (L2.upd J7 l2 (.lst [.ref w4, .ref w5, .ref w6])) l3 (.lst ([.ref w0, .ref w1, .ref w2, .ref w3] ++ [.ref w4, .ref w5, .ref w6])) = J at *
    clear two7 two5 two1 web b07 b47 b06 b05 b04 b03 b15 b16 b17 S17 S16 S15 S14 S13 S12 hlr7 hw07 hw17 hw27 hw37 hw47 hw57 nl2 nl3 kJ
    obtain ⟨t1, t2, m1, m2, hb, ht1, ht2, hm1, hm2⟩ := two.b
    have pairs : ∀ (i : Nat) (v : V), ([.ref t1, .ref t2] : List V)[i]? = some v → ∃ (t x m : Addr) (T' : List (Str × Str)), v = .ref t ∧ J t = some (.tup [.ref x, .ref m]) ∧ LW J x Ps T' ∧ IsWeb c_Web J m Ps T' ∧ Wok Ps T' := fun i v hv => by
      match i, hv with
      | 0, hv => cases hv; exact ⟨_, _, _, _, rfl, ht1, two.web, hm1, two.wok⟩
      | 1, hv => cases hv; exact ⟨_, _, _, _, rfl, ht2, two.less, hm2, two.lok⟩
      | n + 2, hv => simp at hv
    walk_at "st"
    refine ⟨⟨_, sq_of hl3⟩, r_list [.ref w0, .ref w1, .ref w2, .ref w3, .ref w4, .ref w5, .ref w6] (fun i σ H' => (∃ x7 x8, σ = [some (.ref sa), some (.ref a), some (.ref rw_), some (.ref rl), some (.ref q2), some (.ref lb), some (.ref l3), x7, x8]) ∧ Keeps J H') ⟨⟨_, _, rfl⟩, Keeps.refl _⟩ (fun i σ H' _ h => sq_of (h.2 _ _ hl3)) ?_ ?_⟩
    · rintro i v σ H' hv ⟨⟨x7, x8, rfl⟩, k⟩ N2 kN2
      obtain ⟨w', W', rfl, hw', hl'⟩ : ∃ (w' : Addr) (W' : List Str), v = .ref w' ∧ J w' = some (.lst (W'.map V.str)) ∧ W'.length ≤ 95 := by
        match i, hv with
        | 0, hv => cases hv; exact ⟨_, _, rfl, hw0, by omega⟩
        | 1, hv => cases hv; exact ⟨_, [], rfl, hw1, by decide⟩
        | 2, hv => cases hv; exact ⟨_, _, rfl, hw2, by omega⟩
        | 3, hv => cases hv; exact ⟨_, [z3], rfl, hw3, by simp⟩
        | 4, hv => cases hv; exact ⟨_, _, rfl, hw4, by omega⟩
        | 5, hv => cases hv; exact ⟨_, _, rfl, hw5, by omega⟩
        | 6, hv => cases hv; exact ⟨_, _, rfl, hw6, by omega⟩
        | n + 7, hv => simp at hv
      walk_at "rt"
      refine ⟨⟨_, sq_of (k _ _ hb)⟩, r_list [.ref t1, .ref t2] (fun i σ H' => (∃ x8, σ = [some (.ref sa), some (.ref a), some (.ref rw_), some (.ref rl), some (.ref q2), some (.ref lb), some (.ref l3), some (.ref w'), x8]) ∧ Keeps J H') ⟨⟨_, rfl⟩, k⟩ (fun i σ H' _ h => sq_of (h.2 _ _ hb)) ?_ ?_⟩
      · rintro i v σ H' hv ⟨⟨x8, rfl⟩, k⟩ N3 kN3
        obtain ⟨t, x, m, T', rfl, ht, hx, hm, ok⟩ := pairs i v hv
        have sq : SqL K H' t [.ref x, .ref m] ∨ SqT K H' t [.ref x, .ref m] := .inr (tup_at (k _ _ ht))
        walk_at "rt"
        refine ⟨_, sq, _, rfl, _, sq, _, rfl, _, .inl (sq_of (k _ _ hw')), fun l nl => ?_⟩
        exact ⟨x, m, l, Ps, T', W', rfl, upd_same, hl', ok, H', Keeps.new nl, nl, hx.keep k, hm.keep k, fun H9 k9 => ⟨true, rfl, by
          simp only [Bool.true_eq_false, if_false]
          exact kN3 _ _ ⟨⟨_, rfl⟩, k.trans k9⟩⟩⟩
      · rintro σ H' ⟨⟨x8, rfl⟩, k⟩
        exact kN2 _ _ ⟨⟨_, _, rfl⟩, k⟩
    · rintro σ H' ⟨⟨x7, x8, rfl⟩, k⟩
      have sq1 : ∀ H', Keeps J H' → SqL K H' t1 [.ref rw_, .ref m1] ∨ SqT K H' t1 [.ref rw_, .ref m1] := fun H' k => .inr (tup_at (k _ _ ht1))
      have sq2 : ∀ H', Keeps J H' → SqL K H' t2 [.ref rl, .ref m2] ∨ SqT K H' t2 [.ref rl, .ref m2] := fun H' k => .inr (tup_at (k _ _ ht2))
      walk_at "rt"
      refine ⟨_, sq_of (k _ _ hb), _, rfl, t1, rfl, _, sq1 _ k, _, rfl, _, sq_of (k _ _ hb), _, rfl, t1, rfl, _, sq1 _ k, _, rfl, rw_, m1, Ps, T, rfl, two.web.keep k, two.wok, hm1.keep k, fun H9 k9 => ⟨true, rfl, ?_⟩⟩
      rw [if_pos rfl]
      have k' := k.trans k9
      exact ⟨_, sq_of (k' _ _ hb), _, rfl, t2, rfl, _, sq2 _ k', _, rfl, _, sq_of (k' _ _ hb), _, rfl, t2, rfl, _, sq2 _ k', _, rfl, rl, m2, Ps, T1, rfl, two.less.keep k', two.lok, hm2.keep k', fun H10 _ => q _⟩
end
end K01
/-! what the top has left, told by one run: own facts, defs, classes -/
namespace HX
open PySem PySem.Spec PyProof.Rows L2 He
abbrev Ft : Type := PySem.W.Frag → Bool
def obsX (fa : List Ft) (fn : List DefD) (K : PySem.W.Frag) : AlD := ((fa.all fun f => f K) && fn.all fun d => d.ok K, fn.map fun d => fnW K d.at_)
def SaysX (fa : List Ft) (fn : List DefD) (K : PySem.W.Frag) : Prop := obsX fa fn K = valD fn
/-! the objects that the facts are read from, laid out once -/
def frA {α : Type} : List Addr → (List Addr → α) → α
  | [], k => k []
  | a :: r, k => HandSHeadRun.frNat a fun a => frA r fun r => k (a :: r)
theorem frA_eq {α : Type} : ∀ (as : List Addr) (k : List Addr → α), frA as k = k as
  | [], _ => rfl
  | a :: r, k => by
    show HandSHeadRun.frNat a _ = _
    rw [HandSHeadRun.frNat_eq]
    exact frA_eq r _
def frK {α : Type} : PySem.W.Frag → (PySem.W.Frag → α) → α
  | [], k => k []
  | p :: r, k => HandSHeadRun.frNat p.1 fun a => frK r fun r => k ((a, p.2) :: r)
theorem frK_eq {α : Type} : ∀ (K : PySem.W.Frag) (k : PySem.W.Frag → α), frK K k = k K
  | [], _ => rfl
  | p :: r, k => by
    show HandSHeadRun.frNat p.1 _ = _
    rw [HandSHeadRun.frNat_eq]
    exact frK_eq r _
def nsG (g : Addr → Option Obj) (d : Addr) (x : Str) : List Addr := match PySem.W.nsIn (frG g [d]) d x with
  | some (some (.ref a)) => [a]
  | _ => []
def codeG (g : Addr → Option Obj) (a : Addr) : List Addr := match g a with
  | some ⟨_, _, .func fd, _⟩ => refV fd.code
  | _ => []
def methG (g : Addr → Option Obj) (d : Addr) (m : Str) : List Addr := (nsG g d m).flatMap fun b => b :: codeG g b
def clsG (g : Addr → Option Obj) (a : Addr) (ms : List Str) : List Addr := match g a with
  | some ⟨_, _, .cls cd, _⟩ => cd.ns :: ms.flatMap fun m => methG g cd.ns m
  | _ => []
def adrG (g : Addr → Option Obj) (gl : List Str) (cl : List (Str × List Str)) : List Addr :=
  mainGlobals :: ((gl.flatMap fun x => methG g mainGlobals x) ++ cl.flatMap fun p => (nsG g mainGlobals p.1).flatMap fun a => a :: clsG g a p.2)
def obsXG (gl : List Str) (cl : List (Str × List Str)) (fa : List Ft) (fn : List DefD) (g : Addr → Option Obj) : AlD := frA (adrG g gl cl) fun as => frK (frG g as) fun K => obsX fa fn K
def hookX (gl : List Str) (cl : List (Str × List Str)) (fa : List Ft) (fn : List DefD) : PySem.W.Hook where
  α := AlD
  obs := fun s => obsXG gl cl fa fn s.heap.get?
  val := fun _ => valD fn
  says := fun _ h => ∃ K : PySem.W.Frag, K.In h ∧ SaysX fa fn K
  of := fun _ _ e => by
    unfold obsXG at e
    rw [frA_eq, frK_eq] at e
    exact ⟨_, frG_in, e⟩
  keeps := fun _ _ _ ⟨K, hK, c⟩ k => ⟨K, PySem.W.Frag.In.keeps hK k, c⟩
theorem obsXG_eq {gl : List Str} {cl : List (Str × List Str)} {fa : List Ft} {fn : List DefD} (s : PySem.W.SharedT) : obsXG gl cl fa fn (HandSHeadRun.getT s) = (hookX gl cl fa fn).obs s.abs := by
  have e : HandSHeadRun.getT s = s.abs.heap.get? := funext (HandSHeadRun.getT_eq s)
  rw [e] <;> rfl
section
variable {fa : List Ft} {fn : List DefD} {K : PySem.W.Frag}
theorem SaysX.fact (c : SaysX fa fn K) (i : Nat) {f : Ft} (h : fa[i]? = some f := by rfl) : f K = true :=
  List.all_eq_true.mp (ba (congrArg (fun z : AlD => z.1) c)).1 f (List.mem_of_getElem? h)
theorem SaysX.def_ (c : SaysX fa fn K) (i : Nat) {d : DefD} (h : fn[i]? = some d := by rfl) : ∃ fd, FunD K d.name d.qual d.params d.body d.scope (d.dvs K) (d.kws K) (fAd K d.at_) fd := by
  have e : fn.map (fun d => fnW K d.at_) = fn.map DefD.val := congrArg (fun z : AlD => z.2) c
  have e2 : (fn.map fun d => fnW K d.at_)[i]? = (fn.map DefD.val)[i]? := by rw [e]
  rw [List.getElem?_map, List.getElem?_map, h] at e2
  exact DefD.funD (Option.some.inj e2) (List.all_eq_true.mp (ba (congrArg (fun z : AlD => z.1) c)).2 d (List.mem_of_getElem? h))
end
/-- a def of the text, of no default -/
theorem fun_of {K : PySem.W.Frag} {x qual : Str} {st : Stmt} {f : Addr} {fd : FuncData} (F : FunD K x qual (defArgs st) (defBody st) (defScope st) [] [] f fd) : Fun K x qual st f fd := by
  obtain ⟨oc, od, dV, kV, doc, pm, an, cdv, ct, osl, e, lk, hc, hd, _⟩ := F.ex
  have : dV = .none := by
    rcases hd with ⟨_, h⟩ | ⟨h, _⟩
    · exact h
    · exact absurd rfl h
  subst this
  exact ⟨⟨oc, od, kV, doc, pm, an, cdv, ct, osl, e, lk, hc⟩, F.kp⟩
/-! ### classes -/
def isB (a b : Option (Option Value)) : Bool := eqO a b
/-- an own exception class -/
def oexB (x : Str) : Ft := fun K => (match K.lookup (ga K x) with
  | some ⟨.type "type", _, .cls cd, sl⟩ => (match cd.mro, sl.toList with
    | .ref C :: bm, [_, _, _, _, some (.builtin n), _] => C == ga K x && (n == "ValueError.__new__" && (!cd.hasDel && (cd.hasDict && PySem.HandSPX.refsVE bm)))
    | _, _ => false)
  | _ => false) && (eqO (PySem.W.findIn K (.ref (ga K x)) "__setattr__") (some (some (.builtin "object.__setattr__"))) && (decide (PySem.W.subIn K (.ref (ga K x)) (.type "BaseException") = some true) && (decide (PySem.W.typeIn K (.ref (ga K x)) = some (.type "type")) && PySem.W.keepIn K (.ref (ga K x)))))
theorem oex_ok {K : PySem.W.Frag} {x : Str} (c : oexB x K = true) : OexC K (ga K x) := by
  obtain ⟨c0, c⟩ := ba c
  obtain ⟨c1, c⟩ := ba c
  obtain ⟨c2, c⟩ := ba c
  obtain ⟨c3, c4⟩ := ba c
  refine ⟨?_, eqO_ok c1, of_decide_eq_true c2, of_decide_eq_true c3, c4⟩
  split at c0
  · rename_i dd cd sl ho
    split at c0
    · rename_i C bm k0 k1 k2 k3 n k5 hm hs
      obtain ⟨e1, c0⟩ := ba c0
      obtain ⟨e2, c0⟩ := ba c0
      obtain ⟨e3, c0⟩ := ba c0
      obtain ⟨e4, e5⟩ := ba c0
      have f1 : C = ga K x := beq_iff_eq.mp e1
      have f2 : n = "ValueError.__new__" := beq_iff_eq.mp e2
      have f3 : cd.hasDel = false := by simpa using e3
      clear e1 e2 e3
      obtain ⟨nm, bs, mro, ns, qn, hd, sn, sub, ab, col, del⟩ := cd
      dsimp only at hm f3 e4
      subst hm f3 e4 f2
      have hsl : sl = #[k0, k1, k2, k3, some (.builtin "ValueError.__new__"), k5] := by
        obtain ⟨l⟩ := sl
        simp only at hs
        rw [hs]
      subst hsl
      rw [f1] at ho
      exact ⟨nm, qn, ns, bs, bm, sn, sub, ab, col, dd, k0, k1, k2, k3, k5, ho, e5⟩
    · cases c0
  · cases c0
/-- what isinstance asks of a class -/
def isaB (x : Str) : Ft := fun K => eqO (PySem.W.findIn K (.ref (ga K x)) "__class__") (some (some (.builtin "object.__class__"))) && (eqO (PySem.W.specialIn K (.builtin "object.__class__") "__get__") (some (some (.builtin "getset_descriptor.__get__"))) && (decide (PySem.W.takesIn K (.builtin "object.__class__") = some true) && decide (PySem.W.mroIn K (ga K x) (.type "object") = some true)))
structure IsaF (K : PySem.W.Frag) (D : Addr) : Prop where
  ha : PySem.W.findIn K (.ref D) "__class__" = some (some (.builtin "object.__class__"))
  hn : PySem.W.specialIn K (.builtin "object.__class__") "__get__" = some (some (.builtin "getset_descriptor.__get__"))
  ht : PySem.W.takesIn K (.builtin "object.__class__") = some true
  hm : PySem.W.mroIn K D (.type "object") = some true
theorem isa_ok {K : PySem.W.Frag} {x : Str} (c : isaB x K = true) : IsaF K (ga K x) := by
  obtain ⟨c1, c⟩ := ba c
  obtain ⟨c2, c⟩ := ba c
  obtain ⟨c3, c4⟩ := ba c
  exact ⟨eqO_ok c1, eqO_ok c2, of_decide_eq_true c3, of_decide_eq_true c4⟩
def xfcB (x : Str) : Ft := fun K => xfB K (ga K x)
theorem xfc_ok {K : PySem.W.Frag} {x : Str} (c : xfcB x K = true) : XfC K (ga K x) := xfB_ok c
theorem exc_ok {K : PySem.W.Frag} {x : Str} (c : xfcB x K = true) (d : isaB x K = true) : ExcC K (ga K x) :=
  have X := xfc_ok c
  have I := isa_ok d
  ⟨X.ga, X.gg, X.exC, X.hdC, I.ha, I.hn, I.ht, I.hm⟩
/-- an own class's __init__ -/
def iniB (x : Str) : Ft := fun K => eqO (PySem.W.findIn K (.ref (ga K x)) "__init__") (some (some (.ref (ma K (ga K x) "__init__")))) && decide (PySem.W.typeIn K (.ref (ma K (ga K x) "__init__")) = some (.type "function"))
theorem ini_ok {K : PySem.W.Frag} {x : Str} (c : iniB x K = true) : PySem.W.findIn K (.ref (ga K x)) "__init__" = some (some (.ref (ma K (ga K x) "__init__"))) ∧ PySem.W.typeIn K (.ref (ma K (ga K x) "__init__")) = some (.type "function") :=
  ⟨eqO_ok (ba c).1, of_decide_eq_true (ba c).2⟩
def noB (x f : Str) : Ft := fun K => eqO (PySem.W.findIn K (.ref (ga K x)) f) (some none)
theorem no_ok {K : PySem.W.Frag} {x f : Str} (c : noB x f K = true) : PySem.W.findIn K (.ref (ga K x)) f = some none := eqO_ok c
def exmB (x y : Str) (b : Bool) : Ft := fun K => decide (PySem.W.exmOne K (.ref (ga K x)) (.ref (ga K y)) = some b)
theorem exm_ok {K : PySem.W.Frag} {x y : Str} {b : Bool} (c : exmB x y b K = true) : PySem.W.exmOne K (.ref (ga K x)) (.ref (ga K y)) = some b := of_decide_eq_true c
def kitB (x y : Str) (b : Bool) : Ft := fun K => decide (PySem.W.kitOne K (.ref (ga K x)) (.ref (ga K y)) = some b)
theorem kit_ok {K : PySem.W.Frag} {x y : Str} {b : Bool} (c : kitB x y b K = true) : PySem.W.kitOne K (.ref (ga K x)) (.ref (ga K y)) = some b := of_decide_eq_true c
def kitV (x : Str) (y : String) (b : Bool) : Ft := fun K => decide (PySem.W.kitOne K (.ref (ga K x)) (.type y) = some b)
theorem kitV_ok {K : PySem.W.Frag} {x : Str} {y : String} {b : Bool} (c : kitV x y b K = true) : PySem.W.kitOne K (.ref (ga K x)) (.type y) = some b := of_decide_eq_true c
def kitT (x : String) (y : Str) (b : Bool) : Ft := fun K => decide (PySem.W.kitOne K (.type x) (.ref (ga K y)) = some b)
theorem kitT_ok {K : PySem.W.Frag} {x : String} {y : Str} {b : Bool} (c : kitT x y b K = true) : PySem.W.kitOne K (.type x) (.ref (ga K y)) = some b := of_decide_eq_true c
def fF (f : Fa) : Ft := fun K => f.ok K
section
variable {K : PySem.W.Frag} {h : Heap} {mg : Str → Option Value}
theorem g_glo (X : K.In h) (G : h.Ns mainGlobals mg) {x : Str} (c : fF (.glo x) K = true) : mg x = some (.ref (ga K x)) := He.glo_ok X G c
theorem g_free (X : K.In h) (G : h.Ns mainGlobals mg) {x : Str} (c : fF (.free x) K = true) : mg x = none := He.free_ok X G c
theorem g_int (X : K.In h) (G : h.Ns mainGlobals mg) {x : Str} {i : Int} (c : fF (.int x i) K = true) : ∃ t, mg x = some (.int i t) := He.int_ok X G c
theorem g_str (X : K.In h) (G : h.Ns mainGlobals mg) {x z : Str} (c : fF (.str x z) K = true) : ∃ t, mg x = some (.str z t) := He.str_ok X G c
theorem g_cls {x : Str} (c : fF (.cls x) K = true) : Cls K (ga K x) := He.cls_ok c
theorem g_meth {x m : Str} (c : fF (.meth x m) K = true) : Meth K (ga K x) m (ma K (ga K x) m) := He.meth_ok c
theorem g_mkr {x : Str} (c : fF (.mkr x) K = true) : Mk K (ga K x) (ma K (ga K x) "__init__") := He.mkr_ok c
theorem g_noat {x f : Str} (c : fF (.noat x f) K = true) : NoAttr K (ga K x) f := He.noat_ok c
end
end HX
namespace K01
open PySem PySem.Spec PyProof.Rows L2 TL HotExc L2H HotLc Tw WX
/-! ### what the top has left -/
def dd_0 : He.DefD := ⟨("is_name", none), "is_name", "is_name", defArgs s_isname, defBody s_isname, defScope s_isname, [], []⟩
def dd_1 : He.DefD := ⟨("ordered_pair", none), "ordered_pair", "ordered_pair", defArgs s_orderedpair, defBody s_orderedpair, defScope s_orderedpair, [], []⟩
def dd_2 : He.DefD := ⟨("near_table", none), "near_table", "near_table", defArgs s_neartable, defBody s_neartable, defScope s_neartable, [], []⟩
def dd_3 : He.DefD := ⟨("check_places", none), "check_places", "check_places", defArgs s_checkplaces, defBody s_checkplaces, defScope s_checkplaces, [], []⟩
def dd_4 : He.DefD := ⟨("check_ties", none), "check_ties", "check_ties", defArgs s_checkties, defBody s_checkties, defScope s_checkties, [], []⟩
def dd_5 : He.DefD := ⟨("check_repeats", none), "check_repeats", "check_repeats", defArgs s_checkrepeats, defBody s_checkrepeats, defScope s_checkrepeats, [], []⟩
def dd_6 : He.DefD := ⟨("_law_store", none), "_law_store", "_law_store", defArgs s_store, defBody s_store, defScope s_store, [], []⟩
def dd_7 : He.DefD := ⟨("_law_mixed", none), "_law_mixed", "_law_mixed", defArgs s_mixed, defBody s_mixed, defScope s_mixed, [], []⟩
def dd_8 : He.DefD := ⟨("_law_take", none), "_law_take", "_law_take", defArgs s_take, defBody s_take, defScope s_take, [], []⟩
def dd_9 : He.DefD := ⟨("_law_pick", none), "_law_pick", "_law_pick", defArgs s_pick, defBody s_pick, defScope s_pick, [], []⟩
def dd_10 : He.DefD := ⟨("_law_chance", none), "_law_chance", "_law_chance", defArgs s_chance, defBody s_chance, defScope s_chance, [], []⟩
def dd_11 : He.DefD := ⟨("_law_number", none), "_law_number", "_law_number", defArgs s_number, defBody s_number, defScope s_number, [], []⟩
def dd_12 : He.DefD := ⟨("_law_size", none), "_law_size", "_law_size", defArgs s_size, defBody s_size, defScope s_size, [], []⟩
def dd_13 : He.DefD := ⟨("_law_shuffled", none), "_law_shuffled", "_law_shuffled", defArgs s_shuffled, defBody s_shuffled, defScope s_shuffled, [], []⟩
def dd_14 : He.DefD := ⟨("_law_some", none), "_law_some", "_law_some", defArgs s_some, defBody s_some, defScope s_some, [], []⟩
def dd_15 : He.DefD := ⟨("_law_some_again", none), "_law_some_again", "_law_some_again", defArgs s_someagain, defBody s_someagain, defScope s_someagain, [], []⟩
def dd_16 : He.DefD := ⟨("_law_ascending", none), "_law_ascending", "_law_ascending", defArgs s_ascending, defBody s_ascending, defScope s_ascending, [], []⟩
def dd_17 : He.DefD := ⟨("_law_name", none), "_law_name", "_law_name", defArgs s_name, defBody s_name, defScope s_name, [], []⟩
def dd_18 : He.DefD := ⟨("_law_bad_name", none), "_law_bad_name", "_law_bad_name", defArgs s_badname, defBody s_badname, defScope s_badname, [], []⟩
def dd_19 : He.DefD := ⟨("_law_unlike", none), "_law_unlike", "_law_unlike", defArgs s_unlike, defBody s_unlike, defScope s_unlike, [], []⟩
def dd_20 : He.DefD := ⟨("_law_names", none), "_law_names", "_law_names", defArgs s_names, defBody s_names, defScope s_names, [], []⟩
def dd_21 : He.DefD := ⟨("_law_stranger", none), "_law_stranger", "_law_stranger", defArgs s_stranger, defBody s_stranger, defScope s_stranger, [], []⟩
def dd_22 : He.DefD := ⟨("_law_web_of", none), "_law_web_of", "_law_web_of", defArgs s_webof, defBody s_webof, defScope s_webof, [], []⟩
def dd_23 : He.DefD := ⟨("_law_shape", none), "_law_shape", "_law_shape", defArgs s_shape, defBody s_shape, defScope s_shape, [], []⟩
def dd_24 : He.DefD := ⟨("_law_web_sized", none), "_law_web_sized", "_law_web_sized", defArgs s_websized, defBody s_websized, defScope s_websized, [], []⟩
def dd_25 : He.DefD := ⟨("_law_web_args", none), "_law_web_args", "_law_web_args", defArgs s_webargs, defBody s_webargs, defScope s_webargs, [], []⟩
def dd_26 : He.DefD := ⟨("_law_border", none), "_law_border", "_law_border", defArgs s_border, defBody s_border, defScope s_border, [], []⟩
def dd_27 : He.DefD := ⟨("_law_within", none), "_law_within", "_law_within", defArgs s_within, defBody s_within, defScope s_within, [], []⟩
def dd_28 : He.DefD := ⟨("_law_like", none), "_law_like", "_law_like", defArgs s_like, defBody s_like, defScope s_like, [], []⟩
def dd_29 : He.DefD := ⟨("_law_kinds", none), "_law_kinds", "_law_kinds", defArgs s_kinds, defBody s_kinds, defScope s_kinds, [], []⟩
def dd_30 : He.DefD := ⟨("_law_due", none), "_law_due", "_law_due", defArgs s_due, defBody s_due, defScope s_due, [], []⟩
def dd_31 : He.DefD := ⟨("_law_odd", none), "_law_odd", "_law_odd", defArgs s_odd, defBody s_odd, defScope s_odd, [], []⟩
def dd_32 : He.DefD := ⟨("_law_with_odd", none), "_law_with_odd", "_law_with_odd", defArgs s_withodd, defBody s_withodd, defScope s_withodd, [], []⟩
def dd_33 : He.DefD := ⟨("_law_joined", none), "_law_joined", "_law_joined", defArgs s_joined, defBody s_joined, defScope s_joined, [], []⟩
def dd_34 : He.DefD := ⟨("_law_parts_right", none), "_law_parts_right", "_law_parts_right", defArgs s_partsright, defBody s_partsright, defScope s_partsright, [], []⟩
def dd_35 : He.DefD := ⟨("_law_outside", none), "_law_outside", "_law_outside", defArgs s_outside, defBody s_outside, defScope s_outside, [], []⟩
def dd_36 : He.DefD := ⟨("_law_told", none), "_law_told", "_law_told", defArgs s_told, defBody s_told, defScope s_told, [], []⟩
def dd_37 : He.DefD := ⟨("_law_set_good", none), "_law_set_good", "_law_set_good", defArgs s_setgood, defBody s_setgood, defScope s_setgood, [], []⟩
def dd_38 : He.DefD := ⟨("_law_pieces_good", none), "_law_pieces_good", "_law_pieces_good", defArgs s_piecesgood, defBody s_piecesgood, defScope s_piecesgood, [], []⟩
def dd_39 : He.DefD := ⟨("law", none), "law", "law", defArgs s_law, defBody s_law, defScope s_law, [], []⟩
def dd_40 : He.DefD := ⟨("NoPlace", some "__init__"), "__init__", "NoPlace.__init__", defArgs s_iNoPlace, defBody s_iNoPlace, defScope s_iNoPlace, [], []⟩
def dd_41 : He.DefD := ⟨("Web", some "__init__"), "__init__", "Web.__init__", defArgs s_iWeb, defBody s_iWeb, defScope s_iWeb, [], []⟩
def dd_42 : He.DefD := ⟨("Web", some "parts"), "parts", "Web.parts", defArgs s_mWeb_parts, defBody s_mWeb_parts, defScope s_mWeb_parts, [], []⟩
def dd_43 : He.DefD := ⟨("Web", some "border"), "border", "Web.border", defArgs s_mWeb_border, defBody s_mWeb_border, defScope s_mWeb_border, [], []⟩
def dd_44 : He.DefD := ⟨("Web", some "pieces"), "pieces", "Web.pieces", defArgs s_mWeb_pieces, defBody s_mWeb_pieces, defScope s_mWeb_pieces, [], []⟩
def dd_45 : He.DefD := ⟨("Web", some "lone"), "lone", "Web.lone", defArgs s_mWeb_lone, defBody s_mWeb_lone, defScope s_mWeb_lone, [], []⟩
def dd_46 : He.DefD := ⟨("Web", some "_check_place"), "_check_place", "Web._check_place", defArgs s_mWeb_checkplace, defBody s_mWeb_checkplace, defScope s_mWeb_checkplace, [], []⟩
def dd_47 : He.DefD := ⟨("Web", some "_check_all"), "_check_all", "Web._check_all", defArgs s_mWeb_checkall, defBody s_mWeb_checkall, defScope s_mWeb_checkall, [], []⟩
def dd_48 : He.DefD := ⟨("Web", some "_steps_from"), "_steps_from", "Web._steps_from", defArgs s_mWeb_stepsfrom, defBody s_mWeb_stepsfrom, defScope s_mWeb_stepsfrom, [], []⟩
def fnL : List He.DefD := [dd_0, dd_1, dd_2, dd_3, dd_4, dd_5, dd_6, dd_7, dd_8, dd_9, dd_10, dd_11, dd_12, dd_13, dd_14, dd_15, dd_16, dd_17, dd_18, dd_19, dd_20, dd_21, dd_22, dd_23, dd_24, dd_25, dd_26, dd_27, dd_28, dd_29] ++ [dd_30, dd_31, dd_32, dd_33, dd_34, dd_35, dd_36, dd_37, dd_38, dd_39, dd_40, dd_41, dd_42, dd_43, dd_44, dd_45, dd_46, dd_47, dd_48]
def faL : List HX.Ft := ([HX.fF (.glo "is_name"), HX.fF (.glo "ordered_pair"), HX.fF (.glo "near_table"), HX.fF (.glo "check_places"), HX.fF (.glo "check_ties"), HX.fF (.glo "check_repeats"), HX.fF (.glo "_law_store"), HX.fF (.glo "_law_mixed"), HX.fF (.glo "_law_take"), HX.fF (.glo "_law_pick"), HX.fF (.glo "_law_chance"), HX.fF (.glo "_law_number"), HX.fF (.glo "_law_size"), HX.fF (.glo "_law_shuffled"), HX.fF (.glo "_law_some"), HX.fF (.glo "_law_some_again"), HX.fF (.glo "_law_ascending"), HX.fF (.glo "_law_name"), HX.fF (.glo "_law_bad_name"), HX.fF (.glo "_law_unlike"), HX.fF (.glo "_law_names"), HX.fF (.glo "_law_stranger"), HX.fF (.glo "_law_web_of"), HX.fF (.glo "_law_shape"), HX.fF (.glo "_law_web_sized"), HX.fF (.glo "_law_web_args"), HX.fF (.glo "_law_border"), HX.fF (.glo "_law_within"), HX.fF (.glo "_law_like"), HX.fF (.glo "_law_kinds")] : List HX.Ft) ++ ([HX.fF (.glo "_law_due"), HX.fF (.glo "_law_odd"), HX.fF (.glo "_law_with_odd"), HX.fF (.glo "_law_joined"), HX.fF (.glo "_law_parts_right"), HX.fF (.glo "_law_outside"), HX.fF (.glo "_law_told"), HX.fF (.glo "_law_set_good"), HX.fF (.glo "_law_pieces_good"), HX.fF (.glo "law"), HX.fF (.free "len"), HX.fF (.free "range"), HX.fF (.free "abs"), HX.fF (.free "ord"), HX.fF (.free "min"), HX.fF (.free "max"), HX.fF (.free "all"), HX.fF (.free "isinstance"), HX.fF (.free "int"), HX.fF (.free "str"), HX.fF (.free "bool"), HX.fF (.free "list"), HX.fF (.free "tuple"), HX.fF (.free "dict"), HX.fF (.free "sorted"), HX.fF (.free "set"), HX.fF (.free "any"), HX.fF (.free "ValueError"), HX.fF (.str "LETTERS" "abcdefghijklmnopqrstuvwxyz"), HX.fF (.str "DIGITS" "0123456789")] : List HX.Ft) ++ ([HX.fF (.int "LONGEST_NAME" 6), HX.fF (.int "MOST_PLACES" 20), HX.fF (.int "MOST_TIES" 60), HX.oexB "NoPlace", HX.iniB "NoPlace", HX.fF (.glo "NoPlace"), HX.xfcB "NoPlace", HX.isaB "NoPlace", HX.exmB "NoPlace" "NoPlace" true, HX.noB "NoPlace" "place", HX.fF (.glo "TworoomsError"), HX.kitB "NoPlace" "TworoomsError" true, HX.fF (.glo "BadNumber"), HX.kitB "NoPlace" "BadNumber" false, HX.fF (.glo "NoHand"), HX.kitB "NoPlace" "NoHand" false, HX.fF (.glo "BadName"), HX.kitB "NoPlace" "BadName" false, HX.fF (.glo "TooMany"), HX.kitB "NoPlace" "TooMany" false, HX.fF (.glo "NoEntry"), HX.kitB "NoPlace" "NoEntry" false, HX.kitB "NoPlace" "NoPlace" true, HX.fF (.glo "SelfTie"), HX.kitB "NoPlace" "SelfTie" false, HX.fF (.glo "Repeated"), HX.kitB "NoPlace" "Repeated" false, HX.fF (.glo "BadSigns"), HX.kitB "NoPlace" "BadSigns" false, HX.fF (.glo "BadText")] : List HX.Ft) ++ ([HX.kitB "NoPlace" "BadText" false, HX.fF (.glo "BadTree"), HX.kitB "NoPlace" "BadTree" false, HX.fF (.glo "BadMap"), HX.kitB "NoPlace" "BadMap" false, HX.fF (.glo "NotRight"), HX.kitB "NoPlace" "NotRight" false, HX.fF (.glo "NoStone"), HX.kitB "NoPlace" "NoStone" false, HX.fF (.glo "Stands"), HX.kitB "NoPlace" "Stands" false, HX.fF (.glo "Falls"), HX.kitB "NoPlace" "Falls" false, HX.fF (.glo "GameOver"), HX.kitB "NoPlace" "GameOver" false, HX.fF (.glo "Occupied"), HX.kitB "NoPlace" "Occupied" false, HX.fF (.glo "SelfTaking"), HX.kitB "NoPlace" "SelfTaking" false, HX.fF (.glo "ComesBack"), HX.kitB "NoPlace" "ComesBack" false, HX.fF (.glo "BadDeed"), HX.kitB "NoPlace" "BadDeed" false, HX.fF (.glo "NothingDone"), HX.kitB "NoPlace" "NothingDone" false, HX.fF (.glo "BadRow"), HX.kitB "NoPlace" "BadRow" false, HX.kitV "NoPlace" "ValueError" true, HX.fF (.glo "Web"), HX.fF (.cls "Web")] : List HX.Ft) ++ ([HX.fF (.mkr "Web"), HX.fF (.noat "Web" "_places"), HX.fF (.noat "Web" "_ties"), HX.fF (.noat "Web" "_near"), HX.fF (.meth "Web" "parts"), HX.fF (.meth "Web" "border"), HX.fF (.meth "Web" "pieces"), HX.fF (.meth "Web" "lone"), HX.fF (.meth "Web" "_check_place"), HX.fF (.meth "Web" "_check_all"), HX.fF (.meth "Web" "_steps_from")] : List HX.Ft)
abbrev RR : PySem.W.OpenRow := PySem.W.OpenLaw.row PySem.Challenge.rw_tworooms_k04_parts_cover_a_set
def otherNames : List Str := (["_wall", "TworoomsError", "BadNumber", "NoHand", "BadName", "TooMany", "NoEntry", "NoPlace", "SelfTie", "Repeated", "BadSigns", "BadText", "BadTree", "BadMap", "NotRight", "NoStone", "Stands", "Falls", "GameOver", "Occupied", "SelfTaking", "ComesBack", "BadDeed", "NothingDone", "BadRow", "MOST_PLACES", "MOST_TIES", "LETTERS", "DIGITS", "LONGEST_NAME"] : List Str) ++ (["is_name", "Web", "ordered_pair", "near_table", "check_places", "check_ties", "check_repeats", "write_tie", "_law_store", "_law_mixed", "_law_take", "_law_pick", "_law_chance", "_law_number", "_law_size", "_law_shuffled", "_law_some", "_law_some_again", "_law_ascending", "_law_name", "_law_bad_name", "_law_unlike", "_law_names", "_law_stranger", "_law_web_of", "_law_shape", "_law_web_sized", "_law_web_args", "_law_border", "_law_within"] : List Str) ++ (["_law_like", "_law_kinds", "_law_due", "_law_odd", "_law_with_odd", "_law_joined", "_law_parts_right", "_law_outside", "_law_told", "_law_set_good", "_law_pieces_good"] : List Str)
def glL : List Str := (["is_name", "ordered_pair", "near_table", "check_places", "check_ties", "check_repeats", "_law_store", "_law_mixed", "_law_take", "_law_pick", "_law_chance", "_law_number", "_law_size", "_law_shuffled", "_law_some", "_law_some_again", "_law_ascending", "_law_name", "_law_bad_name", "_law_unlike", "_law_names", "_law_stranger", "_law_web_of", "_law_shape", "_law_web_sized", "_law_web_args", "_law_border", "_law_within", "_law_like", "_law_kinds"] : List Str) ++ (["_law_due", "_law_odd", "_law_with_odd", "_law_joined", "_law_parts_right", "_law_outside", "_law_told", "_law_set_good", "_law_pieces_good", "law"] : List Str)
def clL : List (Str × List Str) := [("TworoomsError", []), ("BadNumber", []), ("NoHand", []), ("BadName", []), ("TooMany", []), ("NoEntry", []), ("NoPlace", ["__init__"]), ("SelfTie", []), ("Repeated", []), ("BadSigns", []), ("BadText", []), ("BadTree", []), ("BadMap", []), ("NotRight", []), ("NoStone", []), ("Stands", []), ("Falls", []), ("GameOver", []), ("Occupied", []), ("SelfTaking", []), ("ComesBack", []), ("BadDeed", []), ("NothingDone", []), ("BadRow", []), ("Web", ["__init__", "parts", "border", "pieces", "lone", "_check_place", "_check_all", "_steps_from"])]
def obL (s : PySem.W.SharedT) : He.AlD := HX.obsXG glL clL faL fnL (HandSHeadRun.getT s)
theorem ob_eq (s : PySem.W.SharedT) : obL s = (HX.hookX glL clL faL fnL).obs s.abs := HX.obsXG_eq s
end K01
namespace K01
open PySem PySem.Spec PyProof.Rows L2 TL HotExc L2H HotLc Tw WX
set_option maxHeartbeats 0 in
theorem run_eq (w : World) : HandSHeadRun.RunEq RR (PySem.W.view RR.prog [75]) (HX.hookX glL clL faL fnL) obL 20000 otherNames w := by
  intro os
  kernel_rfl
end K01
namespace K01
open PySem PySem.Spec PyProof.Rows L2 TL HotExc L2H HotLc Tw WX
set_option maxHeartbeats 8000000 in
theorem all_mk {l : PySem.W.OpenLaw} {w : World} {K : PySem.W.Frag} {h base : Heap} {mg : Str → Option Value} (X : K.In h) (G : h.Ns mainGlobals mg) (c : HX.SaysX faL fnL K) : ∃ fd : FuncData, (∀ (s : Shared) (v : Value), BindsTo s fd ⟨[v], []⟩ [("script", v)]) ∧ mg "law" = some (.ref (He.ga K "law")) ∧ ∀ base : Heap, FnOk l.prog w K mg base CX0 10 (He.ga K "law") fd ["script"] (spLaw K) := by
  obtain ⟨fd, FD⟩ := c.def_ 39 (d := dd_39) rfl
  have FL : Fun K "law" "law" s_law (He.ga K "law") fd := HX.fun_of FD
  refine ⟨fd, fun s v => ?_, HX.g_glo X G (c.fact 39 (f := HX.fF (.glo "law")) rfl), fun base => ?_⟩
  · have b := FL.binds (ps := ["script"]) fun _ _ _ _ _ _ us hl => match us, hl with | [_], _ => rfl
    obtain ⟨oc, od, kV, doc, pm, an, cdv, ct, osl, rfl, _⟩ := FL.ex
    exact .of_eq rfl
  obtain ⟨fd_isname, FD_isname⟩ := c.def_ 0 (d := dd_0) rfl
  have F_isname : Fun K "is_name" "is_name" s_isname (He.ga K "is_name") fd_isname := HX.fun_of FD_isname
  have D_isname : Dn K mg "is_name" s_isname ["text"] (He.ga K "is_name") fd_isname := ⟨F_isname, HX.g_glo X G (c.fact 0 (f := HX.fF (.glo "is_name")) rfl), F_isname.binds (ps := ["text"]) fun _ _ _ _ _ _ us hl => match us, hl with | [_], _ => rfl⟩
  obtain ⟨fd_orderedpair, FD_orderedpair⟩ := c.def_ 1 (d := dd_1) rfl
  have F_orderedpair : Fun K "ordered_pair" "ordered_pair" s_orderedpair (He.ga K "ordered_pair") fd_orderedpair := HX.fun_of FD_orderedpair
  have D_orderedpair : Dn K mg "ordered_pair" s_orderedpair ["one", "two"] (He.ga K "ordered_pair") fd_orderedpair := ⟨F_orderedpair, HX.g_glo X G (c.fact 1 (f := HX.fF (.glo "ordered_pair")) rfl), F_orderedpair.binds (ps := ["one", "two"]) fun _ _ _ _ _ _ us hl => match us, hl with | [_, _], _ => rfl⟩
  obtain ⟨fd_neartable, FD_neartable⟩ := c.def_ 2 (d := dd_2) rfl
  have F_neartable : Fun K "near_table" "near_table" s_neartable (He.ga K "near_table") fd_neartable := HX.fun_of FD_neartable
  have D_neartable : Dn K mg "near_table" s_neartable ["places", "ties"] (He.ga K "near_table") fd_neartable := ⟨F_neartable, HX.g_glo X G (c.fact 2 (f := HX.fF (.glo "near_table")) rfl), F_neartable.binds (ps := ["places", "ties"]) fun _ _ _ _ _ _ us hl => match us, hl with | [_, _], _ => rfl⟩
  obtain ⟨fd_checkplaces, FD_checkplaces⟩ := c.def_ 3 (d := dd_3) rfl
  have F_checkplaces : Fun K "check_places" "check_places" s_checkplaces (He.ga K "check_places") fd_checkplaces := HX.fun_of FD_checkplaces
  have D_checkplaces : Dn K mg "check_places" s_checkplaces ["places"] (He.ga K "check_places") fd_checkplaces := ⟨F_checkplaces, HX.g_glo X G (c.fact 3 (f := HX.fF (.glo "check_places")) rfl), F_checkplaces.binds (ps := ["places"]) fun _ _ _ _ _ _ us hl => match us, hl with | [_], _ => rfl⟩
  obtain ⟨fd_checkties, FD_checkties⟩ := c.def_ 4 (d := dd_4) rfl
  have F_checkties : Fun K "check_ties" "check_ties" s_checkties (He.ga K "check_ties") fd_checkties := HX.fun_of FD_checkties
  have D_checkties : Dn K mg "check_ties" s_checkties ["places", "ties"] (He.ga K "check_ties") fd_checkties := ⟨F_checkties, HX.g_glo X G (c.fact 4 (f := HX.fF (.glo "check_ties")) rfl), F_checkties.binds (ps := ["places", "ties"]) fun _ _ _ _ _ _ us hl => match us, hl with | [_, _], _ => rfl⟩
  obtain ⟨fd_checkrepeats, FD_checkrepeats⟩ := c.def_ 5 (d := dd_5) rfl
  have F_checkrepeats : Fun K "check_repeats" "check_repeats" s_checkrepeats (He.ga K "check_repeats") fd_checkrepeats := HX.fun_of FD_checkrepeats
  have D_checkrepeats : Dn K mg "check_repeats" s_checkrepeats ["places", "ties"] (He.ga K "check_repeats") fd_checkrepeats := ⟨F_checkrepeats, HX.g_glo X G (c.fact 5 (f := HX.fF (.glo "check_repeats")) rfl), F_checkrepeats.binds (ps := ["places", "ties"]) fun _ _ _ _ _ _ us hl => match us, hl with | [_, _], _ => rfl⟩
  obtain ⟨fd_store, FD_store⟩ := c.def_ 6 (d := dd_6) rfl
  have F_store : Fun K "_law_store" "_law_store" s_store (He.ga K "_law_store") fd_store := HX.fun_of FD_store
  have D_store : Dn K mg "_law_store" s_store ["script"] (He.ga K "_law_store") fd_store := ⟨F_store, HX.g_glo X G (c.fact 6 (f := HX.fF (.glo "_law_store")) rfl), F_store.binds (ps := ["script"]) fun _ _ _ _ _ _ us hl => match us, hl with | [_], _ => rfl⟩
  obtain ⟨fd_mixed, FD_mixed⟩ := c.def_ 7 (d := dd_7) rfl
  have F_mixed : Fun K "_law_mixed" "_law_mixed" s_mixed (He.ga K "_law_mixed") fd_mixed := HX.fun_of FD_mixed
  have D_mixed : Dn K mg "_law_mixed" s_mixed ["number", "turn", "many"] (He.ga K "_law_mixed") fd_mixed := ⟨F_mixed, HX.g_glo X G (c.fact 7 (f := HX.fF (.glo "_law_mixed")) rfl), F_mixed.binds (ps := ["number", "turn", "many"]) fun _ _ _ _ _ _ us hl => match us, hl with | [_, _, _], _ => rfl⟩
  obtain ⟨fd_take, FD_take⟩ := c.def_ 8 (d := dd_8) rfl
  have F_take : Fun K "_law_take" "_law_take" s_take (He.ga K "_law_take") fd_take := HX.fun_of FD_take
  have D_take : Dn K mg "_law_take" s_take ["store", "many"] (He.ga K "_law_take") fd_take := ⟨F_take, HX.g_glo X G (c.fact 8 (f := HX.fF (.glo "_law_take")) rfl), F_take.binds (ps := ["store", "many"]) fun _ _ _ _ _ _ us hl => match us, hl with | [_, _], _ => rfl⟩
  obtain ⟨fd_pick, FD_pick⟩ := c.def_ 9 (d := dd_9) rfl
  have F_pick : Fun K "_law_pick" "_law_pick" s_pick (He.ga K "_law_pick") fd_pick := HX.fun_of FD_pick
  have D_pick : Dn K mg "_law_pick" s_pick ["store", "row"] (He.ga K "_law_pick") fd_pick := ⟨F_pick, HX.g_glo X G (c.fact 9 (f := HX.fF (.glo "_law_pick")) rfl), F_pick.binds (ps := ["store", "row"]) fun _ _ _ _ _ _ us hl => match us, hl with | [_, _], _ => rfl⟩
  obtain ⟨fd_chance, FD_chance⟩ := c.def_ 10 (d := dd_10) rfl
  have F_chance : Fun K "_law_chance" "_law_chance" s_chance (He.ga K "_law_chance") fd_chance := HX.fun_of FD_chance
  have D_chance : Dn K mg "_law_chance" s_chance ["store", "many"] (He.ga K "_law_chance") fd_chance := ⟨F_chance, HX.g_glo X G (c.fact 10 (f := HX.fF (.glo "_law_chance")) rfl), F_chance.binds (ps := ["store", "many"]) fun _ _ _ _ _ _ us hl => match us, hl with | [_, _], _ => rfl⟩
  obtain ⟨fd_number, FD_number⟩ := c.def_ 11 (d := dd_11) rfl
  have F_number : Fun K "_law_number" "_law_number" s_number (He.ga K "_law_number") fd_number := HX.fun_of FD_number
  have D_number : Dn K mg "_law_number" s_number ["store", "low", "high"] (He.ga K "_law_number") fd_number := ⟨F_number, HX.g_glo X G (c.fact 11 (f := HX.fF (.glo "_law_number")) rfl), F_number.binds (ps := ["store", "low", "high"]) fun _ _ _ _ _ _ us hl => match us, hl with | [_, _, _], _ => rfl⟩
  obtain ⟨fd_size, FD_size⟩ := c.def_ 12 (d := dd_12) rfl
  have F_size : Fun K "_law_size" "_law_size" s_size (He.ga K "_law_size") fd_size := HX.fun_of FD_size
  have D_size : Dn K mg "_law_size" s_size ["store", "low", "high"] (He.ga K "_law_size") fd_size := ⟨F_size, HX.g_glo X G (c.fact 12 (f := HX.fF (.glo "_law_size")) rfl), F_size.binds (ps := ["store", "low", "high"]) fun _ _ _ _ _ _ us hl => match us, hl with | [_, _, _], _ => rfl⟩
  obtain ⟨fd_shuffled, FD_shuffled⟩ := c.def_ 13 (d := dd_13) rfl
  have F_shuffled : Fun K "_law_shuffled" "_law_shuffled" s_shuffled (He.ga K "_law_shuffled") fd_shuffled := HX.fun_of FD_shuffled
  have D_shuffled : Dn K mg "_law_shuffled" s_shuffled ["store", "row"] (He.ga K "_law_shuffled") fd_shuffled := ⟨F_shuffled, HX.g_glo X G (c.fact 13 (f := HX.fF (.glo "_law_shuffled")) rfl), F_shuffled.binds (ps := ["store", "row"]) fun _ _ _ _ _ _ us hl => match us, hl with | [_, _], _ => rfl⟩
  obtain ⟨fd_some, FD_some⟩ := c.def_ 14 (d := dd_14) rfl
  have F_some : Fun K "_law_some" "_law_some" s_some (He.ga K "_law_some") fd_some := HX.fun_of FD_some
  have D_some : Dn K mg "_law_some" s_some ["store", "row"] (He.ga K "_law_some") fd_some := ⟨F_some, HX.g_glo X G (c.fact 14 (f := HX.fF (.glo "_law_some")) rfl), F_some.binds (ps := ["store", "row"]) fun _ _ _ _ _ _ us hl => match us, hl with | [_, _], _ => rfl⟩
  obtain ⟨fd_someagain, FD_someagain⟩ := c.def_ 15 (d := dd_15) rfl
  have F_someagain : Fun K "_law_some_again" "_law_some_again" s_someagain (He.ga K "_law_some_again") fd_someagain := HX.fun_of FD_someagain
  have D_someagain : Dn K mg "_law_some_again" s_someagain ["store", "row"] (He.ga K "_law_some_again") fd_someagain := ⟨F_someagain, HX.g_glo X G (c.fact 15 (f := HX.fF (.glo "_law_some_again")) rfl), F_someagain.binds (ps := ["store", "row"]) fun _ _ _ _ _ _ us hl => match us, hl with | [_, _], _ => rfl⟩
  obtain ⟨fd_ascending, FD_ascending⟩ := c.def_ 16 (d := dd_16) rfl
  have F_ascending : Fun K "_law_ascending" "_law_ascending" s_ascending (He.ga K "_law_ascending") fd_ascending := HX.fun_of FD_ascending
  have D_ascending : Dn K mg "_law_ascending" s_ascending ["row"] (He.ga K "_law_ascending") fd_ascending := ⟨F_ascending, HX.g_glo X G (c.fact 16 (f := HX.fF (.glo "_law_ascending")) rfl), F_ascending.binds (ps := ["row"]) fun _ _ _ _ _ _ us hl => match us, hl with | [_], _ => rfl⟩
  obtain ⟨fd_name, FD_name⟩ := c.def_ 17 (d := dd_17) rfl
  have F_name : Fun K "_law_name" "_law_name" s_name (He.ga K "_law_name") fd_name := HX.fun_of FD_name
  have D_name : Dn K mg "_law_name" s_name ["store"] (He.ga K "_law_name") fd_name := ⟨F_name, HX.g_glo X G (c.fact 17 (f := HX.fF (.glo "_law_name")) rfl), F_name.binds (ps := ["store"]) fun _ _ _ _ _ _ us hl => match us, hl with | [_], _ => rfl⟩
  obtain ⟨fd_badname, FD_badname⟩ := c.def_ 18 (d := dd_18) rfl
  have F_badname : Fun K "_law_bad_name" "_law_bad_name" s_badname (He.ga K "_law_bad_name") fd_badname := HX.fun_of FD_badname
  have D_badname : Dn K mg "_law_bad_name" s_badname ["store"] (He.ga K "_law_bad_name") fd_badname := ⟨F_badname, HX.g_glo X G (c.fact 18 (f := HX.fF (.glo "_law_bad_name")) rfl), F_badname.binds (ps := ["store"]) fun _ _ _ _ _ _ us hl => match us, hl with | [_], _ => rfl⟩
  obtain ⟨fd_unlike, FD_unlike⟩ := c.def_ 19 (d := dd_19) rfl
  have F_unlike : Fun K "_law_unlike" "_law_unlike" s_unlike (He.ga K "_law_unlike") fd_unlike := HX.fun_of FD_unlike
  have D_unlike : Dn K mg "_law_unlike" s_unlike ["name", "taken"] (He.ga K "_law_unlike") fd_unlike := ⟨F_unlike, HX.g_glo X G (c.fact 19 (f := HX.fF (.glo "_law_unlike")) rfl), F_unlike.binds (ps := ["name", "taken"]) fun _ _ _ _ _ _ us hl => match us, hl with | [_, _], _ => rfl⟩
  obtain ⟨fd_names, FD_names⟩ := c.def_ 20 (d := dd_20) rfl
  have F_names : Fun K "_law_names" "_law_names" s_names (He.ga K "_law_names") fd_names := HX.fun_of FD_names
  have D_names : Dn K mg "_law_names" s_names ["store", "many", "taken"] (He.ga K "_law_names") fd_names := ⟨F_names, HX.g_glo X G (c.fact 20 (f := HX.fF (.glo "_law_names")) rfl), F_names.binds (ps := ["store", "many", "taken"]) fun _ _ _ _ _ _ us hl => match us, hl with | [_, _, _], _ => rfl⟩
  obtain ⟨fd_stranger, FD_stranger⟩ := c.def_ 21 (d := dd_21) rfl
  have F_stranger : Fun K "_law_stranger" "_law_stranger" s_stranger (He.ga K "_law_stranger") fd_stranger := HX.fun_of FD_stranger
  have D_stranger : Dn K mg "_law_stranger" s_stranger ["store", "taken"] (He.ga K "_law_stranger") fd_stranger := ⟨F_stranger, HX.g_glo X G (c.fact 21 (f := HX.fF (.glo "_law_stranger")) rfl), F_stranger.binds (ps := ["store", "taken"]) fun _ _ _ _ _ _ us hl => match us, hl with | [_, _], _ => rfl⟩
  obtain ⟨fd_webof, FD_webof⟩ := c.def_ 22 (d := dd_22) rfl
  have F_webof : Fun K "_law_web_of" "_law_web_of" s_webof (He.ga K "_law_web_of") fd_webof := HX.fun_of FD_webof
  have D_webof : Dn K mg "_law_web_of" s_webof ["places", "ties"] (He.ga K "_law_web_of") fd_webof := ⟨F_webof, HX.g_glo X G (c.fact 22 (f := HX.fF (.glo "_law_web_of")) rfl), F_webof.binds (ps := ["places", "ties"]) fun _ _ _ _ _ _ us hl => match us, hl with | [_, _], _ => rfl⟩
  obtain ⟨fd_shape, FD_shape⟩ := c.def_ 23 (d := dd_23) rfl
  have F_shape : Fun K "_law_shape" "_law_shape" s_shape (He.ga K "_law_shape") fd_shape := HX.fun_of FD_shape
  have D_shape : Dn K mg "_law_shape" s_shape ["store", "many", "bound"] (He.ga K "_law_shape") fd_shape := ⟨F_shape, HX.g_glo X G (c.fact 23 (f := HX.fF (.glo "_law_shape")) rfl), F_shape.binds (ps := ["store", "many", "bound"]) fun _ _ _ _ _ _ us hl => match us, hl with | [_, _, _], _ => rfl⟩
  obtain ⟨fd_websized, FD_websized⟩ := c.def_ 24 (d := dd_24) rfl
  have F_websized : Fun K "_law_web_sized" "_law_web_sized" s_websized (He.ga K "_law_web_sized") fd_websized := HX.fun_of FD_websized
  have D_websized : Dn K mg "_law_web_sized" s_websized ["store", "many", "bound", "taken"] (He.ga K "_law_web_sized") fd_websized := ⟨F_websized, HX.g_glo X G (c.fact 24 (f := HX.fF (.glo "_law_web_sized")) rfl), F_websized.binds (ps := ["store", "many", "bound", "taken"]) fun _ _ _ _ _ _ us hl => match us, hl with | [_, _, _, _], _ => rfl⟩
  obtain ⟨fd_webargs, FD_webargs⟩ := c.def_ 25 (d := dd_25) rfl
  have F_webargs : Fun K "_law_web_args" "_law_web_args" s_webargs (He.ga K "_law_web_args") fd_webargs := HX.fun_of FD_webargs
  have D_webargs : Dn K mg "_law_web_args" s_webargs ["store", "web"] (He.ga K "_law_web_args") fd_webargs := ⟨F_webargs, HX.g_glo X G (c.fact 25 (f := HX.fF (.glo "_law_web_args")) rfl), F_webargs.binds (ps := ["store", "web"]) fun _ _ _ _ _ _ us hl => match us, hl with | [_, _], _ => rfl⟩
  obtain ⟨fd_border, FD_border⟩ := c.def_ 26 (d := dd_26) rfl
  have F_border : Fun K "_law_border" "_law_border" s_border (He.ga K "_law_border") fd_border := HX.fun_of FD_border
  have D_border : Dn K mg "_law_border" s_border ["web", "within"] (He.ga K "_law_border") fd_border := ⟨F_border, HX.g_glo X G (c.fact 26 (f := HX.fF (.glo "_law_border")) rfl), F_border.binds (ps := ["web", "within"]) fun _ _ _ _ _ _ us hl => match us, hl with | [_, _], _ => rfl⟩
  obtain ⟨fd_within, FD_within⟩ := c.def_ 27 (d := dd_27) rfl
  have F_within : Fun K "_law_within" "_law_within" s_within (He.ga K "_law_within") fd_within := HX.fun_of FD_within
  have D_within : Dn K mg "_law_within" s_within ["store", "web"] (He.ga K "_law_within") fd_within := ⟨F_within, HX.g_glo X G (c.fact 27 (f := HX.fF (.glo "_law_within")) rfl), F_within.binds (ps := ["store", "web"]) fun _ _ _ _ _ _ us hl => match us, hl with | [_, _], _ => rfl⟩
  obtain ⟨fd_like, FD_like⟩ := c.def_ 28 (d := dd_28) rfl
  have F_like : Fun K "_law_like" "_law_like" s_like (He.ga K "_law_like") fd_like := HX.fun_of FD_like
  have D_like : Dn K mg "_law_like" s_like ["one", "two"] (He.ga K "_law_like") fd_like := ⟨F_like, HX.g_glo X G (c.fact 28 (f := HX.fF (.glo "_law_like")) rfl), F_like.binds (ps := ["one", "two"]) fun _ _ _ _ _ _ us hl => match us, hl with | [_, _], _ => rfl⟩
  obtain ⟨fd_kinds, FD_kinds⟩ := c.def_ 29 (d := dd_29) rfl
  have F_kinds : Fun K "_law_kinds" "_law_kinds" s_kinds (He.ga K "_law_kinds") fd_kinds := HX.fun_of FD_kinds
  have D_kinds : Dn K mg "_law_kinds" s_kinds ["x"] (He.ga K "_law_kinds") fd_kinds := ⟨F_kinds, HX.g_glo X G (c.fact 29 (f := HX.fF (.glo "_law_kinds")) rfl), F_kinds.binds (ps := ["x"]) fun _ _ _ _ _ _ us hl => match us, hl with | [_], _ => rfl⟩
  obtain ⟨fd_due, FD_due⟩ := c.def_ 30 (d := dd_30) rfl
  have F_due : Fun K "_law_due" "_law_due" s_due (He.ga K "_law_due") fd_due := HX.fun_of FD_due
  have D_due : Dn K mg "_law_due" s_due ["kind", "values"] (He.ga K "_law_due") fd_due := ⟨F_due, HX.g_glo X G (c.fact 30 (f := HX.fF (.glo "_law_due")) rfl), F_due.binds (ps := ["kind", "values"]) fun _ _ _ _ _ _ us hl => match us, hl with | [_, _], _ => rfl⟩
  obtain ⟨fd_odd, FD_odd⟩ := c.def_ 31 (d := dd_31) rfl
  have F_odd : Fun K "_law_odd" "_law_odd" s_odd (He.ga K "_law_odd") fd_odd := HX.fun_of FD_odd
  have D_odd : Dn K mg "_law_odd" s_odd ["store", "places"] (He.ga K "_law_odd") fd_odd := ⟨F_odd, HX.g_glo X G (c.fact 31 (f := HX.fF (.glo "_law_odd")) rfl), F_odd.binds (ps := ["store", "places"]) fun _ _ _ _ _ _ us hl => match us, hl with | [_, _], _ => rfl⟩
  obtain ⟨fd_withodd, FD_withodd⟩ := c.def_ 32 (d := dd_32) rfl
  have F_withodd : Fun K "_law_with_odd" "_law_with_odd" s_withodd (He.ga K "_law_with_odd") fd_withodd := HX.fun_of FD_withodd
  have D_withodd : Dn K mg "_law_with_odd" s_withodd ["store", "places", "row"] (He.ga K "_law_with_odd") fd_withodd := ⟨F_withodd, HX.g_glo X G (c.fact 32 (f := HX.fF (.glo "_law_with_odd")) rfl), F_withodd.binds (ps := ["store", "places", "row"]) fun _ _ _ _ _ _ us hl => match us, hl with | [_, _, _], _ => rfl⟩
  obtain ⟨fd_joined, FD_joined⟩ := c.def_ 33 (d := dd_33) rfl
  have F_joined : Fun K "_law_joined" "_law_joined" s_joined (He.ga K "_law_joined") fd_joined := HX.fun_of FD_joined
  have D_joined : Dn K mg "_law_joined" s_joined ["ties", "group"] (He.ga K "_law_joined") fd_joined := ⟨F_joined, HX.g_glo X G (c.fact 33 (f := HX.fF (.glo "_law_joined")) rfl), F_joined.binds (ps := ["ties", "group"]) fun _ _ _ _ _ _ us hl => match us, hl with | [_, _], _ => rfl⟩
  obtain ⟨fd_partsright, FD_partsright⟩ := c.def_ 34 (d := dd_34) rfl
  have F_partsright : Fun K "_law_parts_right" "_law_parts_right" s_partsright (He.ga K "_law_parts_right") fd_partsright := HX.fun_of FD_partsright
  have D_partsright : Dn K mg "_law_parts_right" s_partsright ["web", "within", "told"] (He.ga K "_law_parts_right") fd_partsright := ⟨F_partsright, HX.g_glo X G (c.fact 34 (f := HX.fF (.glo "_law_parts_right")) rfl), F_partsright.binds (ps := ["web", "within", "told"]) fun _ _ _ _ _ _ us hl => match us, hl with | [_, _, _], _ => rfl⟩
  obtain ⟨fd_outside, FD_outside⟩ := c.def_ 35 (d := dd_35) rfl
  have F_outside : Fun K "_law_outside" "_law_outside" s_outside (He.ga K "_law_outside") fd_outside := HX.fun_of FD_outside
  have D_outside : Dn K mg "_law_outside" s_outside ["web", "within"] (He.ga K "_law_outside") fd_outside := ⟨F_outside, HX.g_glo X G (c.fact 35 (f := HX.fF (.glo "_law_outside")) rfl), F_outside.binds (ps := ["web", "within"]) fun _ _ _ _ _ _ us hl => match us, hl with | [_, _], _ => rfl⟩
  obtain ⟨fd_told, FD_told⟩ := c.def_ 36 (d := dd_36) rfl
  have F_told : Fun K "_law_told" "_law_told" s_told (He.ga K "_law_told") fd_told := HX.fun_of FD_told
  have D_told : Dn K mg "_law_told" s_told ["made", "within", "border"] (He.ga K "_law_told") fd_told := ⟨F_told, HX.g_glo X G (c.fact 36 (f := HX.fF (.glo "_law_told")) rfl), F_told.binds (ps := ["made", "within", "border"]) fun _ _ _ _ _ _ us hl => match us, hl with | [_, _, _], _ => rfl⟩
  obtain ⟨fd_setgood, FD_setgood⟩ := c.def_ 37 (d := dd_37) rfl
  have F_setgood : Fun K "_law_set_good" "_law_set_good" s_setgood (He.ga K "_law_set_good") fd_setgood := HX.fun_of FD_setgood
  have D_setgood : Dn K mg "_law_set_good" s_setgood ["web", "made", "within"] (He.ga K "_law_set_good") fd_setgood := ⟨F_setgood, HX.g_glo X G (c.fact 37 (f := HX.fF (.glo "_law_set_good")) rfl), F_setgood.binds (ps := ["web", "made", "within"]) fun _ _ _ _ _ _ us hl => match us, hl with | [_, _, _], _ => rfl⟩
  obtain ⟨fd_piecesgood, FD_piecesgood⟩ := c.def_ 38 (d := dd_38) rfl
  have F_piecesgood : Fun K "_law_pieces_good" "_law_pieces_good" s_piecesgood (He.ga K "_law_pieces_good") fd_piecesgood := HX.fun_of FD_piecesgood
  have D_piecesgood : Dn K mg "_law_pieces_good" s_piecesgood ["web", "made"] (He.ga K "_law_pieces_good") fd_piecesgood := ⟨F_piecesgood, HX.g_glo X G (c.fact 38 (f := HX.fF (.glo "_law_pieces_good")) rfl), F_piecesgood.binds (ps := ["web", "made"]) fun _ _ _ _ _ _ us hl => match us, hl with | [_, _], _ => rfl⟩
  have FD_law := FD
  have fd_law := fd
  have F_law : Fun K "law" "law" s_law (He.ga K "law") fd := HX.fun_of FD_law
  have D_law : Dn K mg "law" s_law ["script"] (He.ga K "law") fd := ⟨F_law, HX.g_glo X G (c.fact 39 (f := HX.fF (.glo "law")) rfl), F_law.binds (ps := ["script"]) fun _ _ _ _ _ _ us hl => match us, hl with | [_], _ => rfl⟩
  obtain ⟨fd_iNoPlace, FD_iNoPlace⟩ := c.def_ 40 (d := dd_40) rfl
  have F_iNoPlace : Fun K "__init__" "NoPlace.__init__" s_iNoPlace (He.ma K (He.ga K "NoPlace") "__init__") fd_iNoPlace := HX.fun_of FD_iNoPlace
  have B_iNoPlace := F_iNoPlace.binds (ps := ["self", "place"]) fun _ _ _ _ _ _ us hl => match us, hl with | [_, _], _ => rfl
  obtain ⟨fd_iWeb, FD_iWeb⟩ := c.def_ 41 (d := dd_41) rfl
  have F_iWeb : Fun K "__init__" "Web.__init__" s_iWeb (He.ma K (He.ga K "Web") "__init__") fd_iWeb := HX.fun_of FD_iWeb
  have B_iWeb := F_iWeb.binds (ps := ["self", "places", "ties"]) fun _ _ _ _ _ _ us hl => match us, hl with | [_, _, _], _ => rfl
  obtain ⟨fd_mWeb_parts, FD_mWeb_parts⟩ := c.def_ 42 (d := dd_42) rfl
  have F_mWeb_parts : Fun K "parts" "Web.parts" s_mWeb_parts (He.ma K (He.ga K "Web") "parts") fd_mWeb_parts := HX.fun_of FD_mWeb_parts
  have B_mWeb_parts := F_mWeb_parts.binds (ps := ["self", "within"]) fun _ _ _ _ _ _ us hl => match us, hl with | [_, _], _ => rfl
  obtain ⟨fd_mWeb_border, FD_mWeb_border⟩ := c.def_ 43 (d := dd_43) rfl
  have F_mWeb_border : Fun K "border" "Web.border" s_mWeb_border (He.ma K (He.ga K "Web") "border") fd_mWeb_border := HX.fun_of FD_mWeb_border
  have B_mWeb_border := F_mWeb_border.binds (ps := ["self", "within"]) fun _ _ _ _ _ _ us hl => match us, hl with | [_, _], _ => rfl
  obtain ⟨fd_mWeb_pieces, FD_mWeb_pieces⟩ := c.def_ 44 (d := dd_44) rfl
  have F_mWeb_pieces : Fun K "pieces" "Web.pieces" s_mWeb_pieces (He.ma K (He.ga K "Web") "pieces") fd_mWeb_pieces := HX.fun_of FD_mWeb_pieces
  have B_mWeb_pieces := F_mWeb_pieces.binds (ps := ["self"]) fun _ _ _ _ _ _ us hl => match us, hl with | [_], _ => rfl
  obtain ⟨fd_mWeb_lone, FD_mWeb_lone⟩ := c.def_ 45 (d := dd_45) rfl
  have F_mWeb_lone : Fun K "lone" "Web.lone" s_mWeb_lone (He.ma K (He.ga K "Web") "lone") fd_mWeb_lone := HX.fun_of FD_mWeb_lone
  have B_mWeb_lone := F_mWeb_lone.binds (ps := ["self"]) fun _ _ _ _ _ _ us hl => match us, hl with | [_], _ => rfl
  obtain ⟨fd_mWeb_checkplace, FD_mWeb_checkplace⟩ := c.def_ 46 (d := dd_46) rfl
  have F_mWeb_checkplace : Fun K "_check_place" "Web._check_place" s_mWeb_checkplace (He.ma K (He.ga K "Web") "_check_place") fd_mWeb_checkplace := HX.fun_of FD_mWeb_checkplace
  have B_mWeb_checkplace := F_mWeb_checkplace.binds (ps := ["self", "place"]) fun _ _ _ _ _ _ us hl => match us, hl with | [_, _], _ => rfl
  obtain ⟨fd_mWeb_checkall, FD_mWeb_checkall⟩ := c.def_ 47 (d := dd_47) rfl
  have F_mWeb_checkall : Fun K "_check_all" "Web._check_all" s_mWeb_checkall (He.ma K (He.ga K "Web") "_check_all") fd_mWeb_checkall := HX.fun_of FD_mWeb_checkall
  have B_mWeb_checkall := F_mWeb_checkall.binds (ps := ["self", "within"]) fun _ _ _ _ _ _ us hl => match us, hl with | [_, _], _ => rfl
  obtain ⟨fd_mWeb_stepsfrom, FD_mWeb_stepsfrom⟩ := c.def_ 48 (d := dd_48) rfl
  have F_mWeb_stepsfrom : Fun K "_steps_from" "Web._steps_from" s_mWeb_stepsfrom (He.ma K (He.ga K "Web") "_steps_from") fd_mWeb_stepsfrom := HX.fun_of FD_mWeb_stepsfrom
  have B_mWeb_stepsfrom := F_mWeb_stepsfrom.binds (ps := ["self", "start", "within"]) fun _ _ _ _ _ _ us hl => match us, hl with | [_, _, _], _ => rfl
  have B : Bi mg := ⟨HX.g_free X G (c.fact 40 (f := HX.fF (.free "len")) rfl), HX.g_free X G (c.fact 41 (f := HX.fF (.free "range")) rfl), HX.g_free X G (c.fact 42 (f := HX.fF (.free "abs")) rfl), HX.g_free X G (c.fact 43 (f := HX.fF (.free "ord")) rfl), HX.g_free X G (c.fact 44 (f := HX.fF (.free "min")) rfl), HX.g_free X G (c.fact 45 (f := HX.fF (.free "max")) rfl), HX.g_free X G (c.fact 46 (f := HX.fF (.free "all")) rfl), HX.g_free X G (c.fact 47 (f := HX.fF (.free "isinstance")) rfl), HX.g_free X G (c.fact 48 (f := HX.fF (.free "int")) rfl), HX.g_free X G (c.fact 49 (f := HX.fF (.free "str")) rfl), HX.g_free X G (c.fact 50 (f := HX.fF (.free "bool")) rfl), HX.g_free X G (c.fact 51 (f := HX.fF (.free "list")) rfl), HX.g_free X G (c.fact 52 (f := HX.fF (.free "tuple")) rfl), HX.g_free X G (c.fact 53 (f := HX.fF (.free "dict")) rfl)⟩
  have B_sorted := HX.g_free X G (c.fact 54 (f := HX.fF (.free "sorted")) rfl)
  have B_set := HX.g_free X G (c.fact 55 (f := HX.fF (.free "set")) rfl)
  have B_any := HX.g_free X G (c.fact 56 (f := HX.fF (.free "any")) rfl)
  have B_ValueError := HX.g_free X G (c.fact 57 (f := HX.fF (.free "ValueError")) rfl)
  obtain ⟨t_LETTERS, MG_LETTERS⟩ := HX.g_str X G (c.fact 58 (f := HX.fF (.str "LETTERS" "abcdefghijklmnopqrstuvwxyz")) rfl)
  obtain ⟨t_DIGITS, MG_DIGITS⟩ := HX.g_str X G (c.fact 59 (f := HX.fF (.str "DIGITS" "0123456789")) rfl)
  obtain ⟨t_LONGEST_NAME, MG_LONGEST_NAME⟩ := HX.g_int X G (c.fact 60 (f := HX.fF (.int "LONGEST_NAME" 6)) rfl)
  obtain ⟨t_MOST_PLACES, MG_MOST_PLACES⟩ := HX.g_int X G (c.fact 61 (f := HX.fF (.int "MOST_PLACES" 20)) rfl)
  obtain ⟨t_MOST_TIES, MG_MOST_TIES⟩ := HX.g_int X G (c.fact 62 (f := HX.fF (.int "MOST_TIES" 60)) rfl)
  have oex_NoPlace := HX.oex_ok (c.fact 63 (f := HX.oexB "NoPlace") rfl)
  have ini_NoPlace := HX.ini_ok (c.fact 64 (f := HX.iniB "NoPlace") rfl)
  have X_NoPlace : Exn K mg "NoPlace" (He.ga K "NoPlace") (He.ma K (He.ga K "NoPlace") "__init__") := ⟨oex_NoPlace, HX.g_glo X G (c.fact 65 (f := HX.fF (.glo "NoPlace")) rfl), ini_NoPlace.1, ini_NoPlace.2⟩
  have XF_NoPlace := HX.xfc_ok (c.fact 66 (f := HX.xfcB "NoPlace") rfl)
  have XC_NoPlace := HX.exc_ok (c.fact 66 (f := HX.xfcB "NoPlace") rfl) (c.fact 67 (f := HX.isaB "NoPlace") rfl)
  have BI_NoPlace := B_iNoPlace
  have me_NoPlace := HX.exm_ok (c.fact 68 (f := HX.exmB "NoPlace" "NoPlace" true) rfl)
  have no_NoPlace_place := HX.no_ok (c.fact 69 (f := HX.noB "NoPlace" "place") rfl)
  have kn_NoPlace : ∀ x ∈ excs, Kn K mg (He.ga K "NoPlace") "NoPlace" x := List.forall_mem_cons.2 ⟨⟨_, HX.g_glo X G (c.fact 70 (f := HX.fF (.glo "TworoomsError")) rfl), HX.kit_ok (c.fact 71 (f := HX.kitB "NoPlace" "TworoomsError" true) rfl)⟩, List.forall_mem_cons.2 ⟨⟨_, HX.g_glo X G (c.fact 72 (f := HX.fF (.glo "BadNumber")) rfl), HX.kit_ok (c.fact 73 (f := HX.kitB "NoPlace" "BadNumber" false) rfl)⟩, List.forall_mem_cons.2 ⟨⟨_, HX.g_glo X G (c.fact 74 (f := HX.fF (.glo "NoHand")) rfl), HX.kit_ok (c.fact 75 (f := HX.kitB "NoPlace" "NoHand" false) rfl)⟩, List.forall_mem_cons.2 ⟨⟨_, HX.g_glo X G (c.fact 76 (f := HX.fF (.glo "BadName")) rfl), HX.kit_ok (c.fact 77 (f := HX.kitB "NoPlace" "BadName" false) rfl)⟩, List.forall_mem_cons.2 ⟨⟨_, HX.g_glo X G (c.fact 78 (f := HX.fF (.glo "TooMany")) rfl), HX.kit_ok (c.fact 79 (f := HX.kitB "NoPlace" "TooMany" false) rfl)⟩, List.forall_mem_cons.2 ⟨⟨_, HX.g_glo X G (c.fact 80 (f := HX.fF (.glo "NoEntry")) rfl), HX.kit_ok (c.fact 81 (f := HX.kitB "NoPlace" "NoEntry" false) rfl)⟩, List.forall_mem_cons.2 ⟨⟨_, HX.g_glo X G (c.fact 65 (f := HX.fF (.glo "NoPlace")) rfl), HX.kit_ok (c.fact 82 (f := HX.kitB "NoPlace" "NoPlace" true) rfl)⟩, List.forall_mem_cons.2 ⟨⟨_, HX.g_glo X G (c.fact 83 (f := HX.fF (.glo "SelfTie")) rfl), HX.kit_ok (c.fact 84 (f := HX.kitB "NoPlace" "SelfTie" false) rfl)⟩, List.forall_mem_cons.2 ⟨⟨_, HX.g_glo X G (c.fact 85 (f := HX.fF (.glo "Repeated")) rfl), HX.kit_ok (c.fact 86 (f := HX.kitB "NoPlace" "Repeated" false) rfl)⟩, List.forall_mem_cons.2 ⟨⟨_, HX.g_glo X G (c.fact 87 (f := HX.fF (.glo "BadSigns")) rfl), HX.kit_ok (c.fact 88 (f := HX.kitB "NoPlace" "BadSigns" false) rfl)⟩, List.forall_mem_cons.2 ⟨⟨_, HX.g_glo X G (c.fact 89 (f := HX.fF (.glo "BadText")) rfl), HX.kit_ok (c.fact 90 (f := HX.kitB "NoPlace" "BadText" false) rfl)⟩, List.forall_mem_cons.2 ⟨⟨_, HX.g_glo X G (c.fact 91 (f := HX.fF (.glo "BadTree")) rfl), HX.kit_ok (c.fact 92 (f := HX.kitB "NoPlace" "BadTree" false) rfl)⟩, List.forall_mem_cons.2 ⟨⟨_, HX.g_glo X G (c.fact 93 (f := HX.fF (.glo "BadMap")) rfl), HX.kit_ok (c.fact 94 (f := HX.kitB "NoPlace" "BadMap" false) rfl)⟩, List.forall_mem_cons.2 ⟨⟨_, HX.g_glo X G (c.fact 95 (f := HX.fF (.glo "NotRight")) rfl), HX.kit_ok (c.fact 96 (f := HX.kitB "NoPlace" "NotRight" false) rfl)⟩, List.forall_mem_cons.2 ⟨⟨_, HX.g_glo X G (c.fact 97 (f := HX.fF (.glo "NoStone")) rfl), HX.kit_ok (c.fact 98 (f := HX.kitB "NoPlace" "NoStone" false) rfl)⟩, List.forall_mem_cons.2 ⟨⟨_, HX.g_glo X G (c.fact 99 (f := HX.fF (.glo "Stands")) rfl), HX.kit_ok (c.fact 100 (f := HX.kitB "NoPlace" "Stands" false) rfl)⟩, List.forall_mem_cons.2 ⟨⟨_, HX.g_glo X G (c.fact 101 (f := HX.fF (.glo "Falls")) rfl), HX.kit_ok (c.fact 102 (f := HX.kitB "NoPlace" "Falls" false) rfl)⟩, List.forall_mem_cons.2 ⟨⟨_, HX.g_glo X G (c.fact 103 (f := HX.fF (.glo "GameOver")) rfl), HX.kit_ok (c.fact 104 (f := HX.kitB "NoPlace" "GameOver" false) rfl)⟩, List.forall_mem_cons.2 ⟨⟨_, HX.g_glo X G (c.fact 105 (f := HX.fF (.glo "Occupied")) rfl), HX.kit_ok (c.fact 106 (f := HX.kitB "NoPlace" "Occupied" false) rfl)⟩, List.forall_mem_cons.2 ⟨⟨_, HX.g_glo X G (c.fact 107 (f := HX.fF (.glo "SelfTaking")) rfl), HX.kit_ok (c.fact 108 (f := HX.kitB "NoPlace" "SelfTaking" false) rfl)⟩, List.forall_mem_cons.2 ⟨⟨_, HX.g_glo X G (c.fact 109 (f := HX.fF (.glo "ComesBack")) rfl), HX.kit_ok (c.fact 110 (f := HX.kitB "NoPlace" "ComesBack" false) rfl)⟩, List.forall_mem_cons.2 ⟨⟨_, HX.g_glo X G (c.fact 111 (f := HX.fF (.glo "BadDeed")) rfl), HX.kit_ok (c.fact 112 (f := HX.kitB "NoPlace" "BadDeed" false) rfl)⟩, List.forall_mem_cons.2 ⟨⟨_, HX.g_glo X G (c.fact 113 (f := HX.fF (.glo "NothingDone")) rfl), HX.kit_ok (c.fact 114 (f := HX.kitB "NoPlace" "NothingDone" false) rfl)⟩, List.forall_mem_cons.2 ⟨⟨_, HX.g_glo X G (c.fact 115 (f := HX.fF (.glo "BadRow")) rfl), HX.kit_ok (c.fact 116 (f := HX.kitB "NoPlace" "BadRow" false) rfl)⟩, fun _ h => nomatch h⟩⟩⟩⟩⟩⟩⟩⟩⟩⟩⟩⟩⟩⟩⟩⟩⟩⟩⟩⟩⟩⟩⟩⟩
  have kit_NoPlace_ValueError := HX.kitV_ok (c.fact 117 (f := HX.kitV "NoPlace" "ValueError" true) rfl)
  have g_Web := HX.g_glo X G (c.fact 118 (f := HX.fF (.glo "Web")) rfl)
  have CL_Web := HX.g_cls (c.fact 119 (f := HX.fF (.cls "Web")) rfl)
  have MK_Web := HX.g_mkr (c.fact 120 (f := HX.fF (.mkr "Web")) rfl)
  have no_Web_places := HX.g_noat (c.fact 121 (f := HX.fF (.noat "Web" "_places")) rfl)
  have no_Web_ties := HX.g_noat (c.fact 122 (f := HX.fF (.noat "Web" "_ties")) rfl)
  have no_Web_near := HX.g_noat (c.fact 123 (f := HX.fF (.noat "Web" "_near")) rfl)
  have ME_mWeb_parts := HX.g_meth (c.fact 124 (f := HX.fF (.meth "Web" "parts")) rfl)
  have ME_mWeb_border := HX.g_meth (c.fact 125 (f := HX.fF (.meth "Web" "border")) rfl)
  have ME_mWeb_pieces := HX.g_meth (c.fact 126 (f := HX.fF (.meth "Web" "pieces")) rfl)
  have ME_mWeb_lone := HX.g_meth (c.fact 127 (f := HX.fF (.meth "Web" "lone")) rfl)
  have ME_mWeb_checkplace := HX.g_meth (c.fact 128 (f := HX.fF (.meth "Web" "_check_place")) rfl)
  have ME_mWeb_checkall := HX.g_meth (c.fact 129 (f := HX.fF (.meth "Web" "_check_all")) rfl)
  have ME_mWeb_stepsfrom := HX.g_meth (c.fact 130 (f := HX.fF (.meth "Web" "_steps_from")) rfl)
  have GI_NoPlace := ok_iNoPlace (P := l.prog) (w := w) (mg := mg) (base := base) oex_NoPlace no_NoPlace_place F_iNoPlace
  have G_kinds_NoPlace := ok_kinds (P := l.prog) (w := w) (base := base) B B_ValueError D_kinds XC_NoPlace kn_NoPlace kit_NoPlace_ValueError
  have G_take := ok_take (P := l.prog) (w := w) (base := base) B D_take D_mixed
  have G_pick := ok_pick (P := l.prog) (w := w) (base := base) B D_pick D_take G_take
  have G_pickL := ok_pickL (P := l.prog) (w := w) (base := base) B D_pick D_take G_take
  have G_chance := ok_chance (P := l.prog) (w := w) (base := base) B D_chance D_take G_take
  have G_number := ok_number (P := l.prog) (w := w) (base := base) B D_number D_take D_chance G_take G_chance
  have G_name := ok_name (P := l.prog) (w := w) (base := base) B D_name D_number D_pick G_number G_pick
  have G_shuffled := ok_shuffled (P := l.prog) (w := w) (base := base) B D_shuffled D_take G_take
  have G_size := ok_size (P := l.prog) (w := w) (base := base) B D_size D_take G_take
  have G_unlike := ok_unlike (P := l.prog) (w := w) (base := base) B D_unlike
  have G_names := ok_names (P := l.prog) (w := w) (base := base) B D_names D_take D_name D_pick D_unlike D_shuffled G_take G_name G_pick G_unlike G_shuffled
  have G_some := ok_some (P := l.prog) (w := w) (base := base) B D_some D_take D_chance G_take G_chance
  have G_someagain := ok_someagain (P := l.prog) (w := w) (base := base) B D_someagain D_shuffled D_some D_chance D_take D_pick G_shuffled G_some G_chance G_take G_pickL
  have G_shape := ok_shape (P := l.prog) (w := w) (base := base) B D_shape D_take D_chance D_shuffled G_take G_chance G_shuffled
  have G_webof := ok_webof (P := l.prog) (w := w) (base := base) B B_sorted D_webof
  have G_websized := ok_websized (P := l.prog) (w := w) (base := base) B D_websized D_names D_shape D_webof G_names G_shape G_webof
  have G_webargs := ok_webargs (P := l.prog) (w := w) (base := base) B D_webargs D_chance D_shuffled G_chance G_shuffled
  have G_stranger := ok_stranger (P := l.prog) (w := w) (base := base) B D_stranger D_name D_take D_pick D_unlike G_name G_take G_pick G_pickL G_unlike
  have G_badname := ok_badname (P := l.prog) (w := w) (base := base) B D_badname D_name D_take D_pick G_name G_take G_pick
  have G_odd := ok_odd (P := l.prog) (w := w) (base := base) B D_odd D_take D_stranger D_badname D_pick G_take G_stranger G_badname G_pickL
  have G_withodd := ok_withodd (P := l.prog) (w := w) (base := base) B D_withodd D_take D_odd G_take G_odd
  have G_border := ok_border (P := l.prog) (w := w) (base := base) B B_any D_border
  have G_within := ok_within (P := l.prog) (w := w) (base := base) B D_within D_someagain D_chance D_shuffled D_border G_someagain G_chance G_shuffled G_border
  have G_isname := ok_isname2 (P := l.prog) (w := w) (base := base) B D_isname MG_LONGEST_NAME MG_LETTERS MG_DIGITS
  have G_ord := ok_ord (P := l.prog) (w := w) (base := base) D_orderedpair
  have G_ckp := ok_ckp (P := l.prog) (w := w) (base := base) B D_checkplaces D_isname G_isname
  have G_ckt := ok_ckt (P := l.prog) (w := w) (base := base) B D_checkties MG_MOST_PLACES MG_MOST_TIES
  have G_ckr := ok_ckr (P := l.prog) (w := w) (base := base) B B_set D_checkrepeats D_orderedpair G_ord
  have G_near := ok_near (P := l.prog) (w := w) (base := base) B B_sorted D_neartable
  have G_iWeb := ok_iWeb (P := l.prog) (w := w) (base := base) B B_sorted F_iWeb CL_Web no_Web_places no_Web_ties no_Web_near D_checkplaces D_checkties D_checkrepeats D_orderedpair D_neartable G_ckp G_ckt G_ckr G_ord G_near
  have G_cpl := ok_checkplace (c_Web := (He.ga K "Web")) (P := l.prog) (w := w) (base := base) X_NoPlace BI_NoPlace GI_NoPlace F_mWeb_checkplace CL_Web no_Web_near
  have G_cal := ok_checkall (c_Web := (He.ga K "Web")) (mg := mg) (P := l.prog) (w := w) (base := base) F_mWeb_checkall CL_Web ME_mWeb_checkplace B_mWeb_checkplace G_cpl
  have G_stf := ok_stepsfrom (c_Web := (He.ga K "Web")) (P := l.prog) (w := w) (base := base) B B_set F_mWeb_stepsfrom CL_Web no_Web_near
  have G_due := ok_due (P := l.prog) (w := w) (base := base) D_due
  have G_like := like_all (P := l.prog) (w := w) (base := base) B D_like 5
  have G_parts := ok_parts (c_Web := (He.ga K "Web")) (mg := mg) (P := l.prog) (w := w) (base := base) B B_set B_sorted F_mWeb_parts CL_Web ME_mWeb_checkall B_mWeb_checkall ME_mWeb_stepsfrom B_mWeb_stepsfrom G_cal G_stf
  have G_wbord := ok_wborder (c_Web := (He.ga K "Web")) (mg := mg) (P := l.prog) (w := w) (base := base) B B_set B_sorted F_mWeb_border CL_Web no_Web_near ME_mWeb_checkall B_mWeb_checkall G_cal
  have G_pieces := ok_pieces (c_Web := (He.ga K "Web")) (mg := mg) (P := l.prog) (w := w) (base := base) F_mWeb_pieces CL_Web no_Web_places ME_mWeb_parts B_mWeb_parts G_parts
  have G_lone := ok_lone (c_Web := (He.ga K "Web")) (mg := mg) (P := l.prog) (w := w) (base := base) B F_mWeb_lone CL_Web no_Web_places no_Web_near
  have G_asc := ok_ascending (P := l.prog) (w := w) (base := base) B D_ascending
  have G_join := ok_joined (P := l.prog) (w := w) (base := base) B D_joined
  have G_pr := ok_partsright (P := l.prog) (w := w) (base := base) B D_partsright D_ascending D_joined G_asc G_join
  have G_out := ok_outside (P := l.prog) (w := w) (base := base) B D_outside
  have G_told := ok_told (P := l.prog) (w := w) (base := base) D_told D_kinds X_NoPlace XF_NoPlace no_NoPlace_place me_NoPlace CL_Web ME_mWeb_parts B_mWeb_parts ME_mWeb_border B_mWeb_border G_parts G_wbord G_kinds_NoPlace
  have G_sg := ok_setgood (P := l.prog) (w := w) (base := base) B D_setgood D_told D_like D_due D_partsright D_outside G_told G_like G_due G_pr G_out CL_Web ME_mWeb_parts B_mWeb_parts ME_mWeb_border B_mWeb_border G_parts G_wbord
  have G_pcg := ok_piecesgood (P := l.prog) (w := w) (base := base) B D_piecesgood D_like D_partsright G_like G_pr CL_Web ME_mWeb_pieces B_mWeb_pieces ME_mWeb_lone B_mWeb_lone G_pieces G_lone
  have G_store := ok_store (P := l.prog) (w := w) (base := base) B D_store
  exact ok_law B D_law D_store G_store D_size G_size D_websized G_websized D_webargs G_webargs D_webof G_webof D_some G_some D_within G_within D_withodd G_withodd D_pick G_pickL D_setgood G_sg D_piecesgood G_pcg g_Web MK_Web G_iWeb B_iWeb
end K01
namespace K01
open PySem PySem.W PySem.Calls PyProof.Rows
abbrev QQ : Program := view RR.prog [75]
abbrev DD : DefRec := HandSHeadRun.topDef RR.prog 75
set_option maxHeartbeats 0 in
theorem he_open : opening RR.prog = plainProg RR.prog.main.scope.names := by kernel_rfl
set_option maxHeartbeats 0 in
theorem he_fence (s : Shared) : fenceModules? RR.prog s = some s := by kernel_rfl
set_option maxHeartbeats 0 in
theorem he_def : defOf QQ RR.name = some (DD, []) := by kernel_rfl
set_option maxHeartbeats 0 in
theorem he_the : RR.prog.theDef RR.name = some (DD.params, DD.body, DD.scope) := by kernel_rfl
set_option maxHeartbeats 0 in
theorem he_kw : kwWritten? DD.params.kwonlyargs DD.params.kw_defaults = some [] := by kernel_rfl
set_option maxHeartbeats 0 in
theorem he_wr : (!RR.writes || RR.records.isEmpty) = true := by rfl
set_option maxHeartbeats 0 in
theorem he_said : RR.wellSaid = true := by decide +kernel
set_option maxHeartbeats 0 in
theorem he_ok : (chainsOk QQ && opensWell RR.prog && (frees RR.toRowW && RR.within.isEmpty)) = true := by decide +kernel
set_option maxHeartbeats 0 in
theorem he_bare : RR.prog.bare := ⟨rfl, rfl, rfl, rfl, rfl, by decide +kernel⟩
set_option maxHeartbeats 0 in
theorem he_name : DD.name = ("law" : PySem.Str) := by kernel_rfl
set_option maxHeartbeats 0 in
theorem he_nodef : DD.params.defaults = [] := by kernel_rfl
set_option maxHeartbeats 0 in
theorem he_call : WalkO QQ otherNames (XL QQ []) (HX.hookX glL clL faL fnL).says RR.toRowW DD [] fun f vs => PySem.call f vs := by
  refine L2.walk_ofE (l := PySem.Challenge.rw_tworooms_k04_parts_cover_a_set) (n := 63) (k := 10) (x := "script") (CX := L2.CX0) rfl (by decide) he_nodef ⟨rfl, by decide, by decide⟩ ?F (fun _ _ _ _ z => z)
  intro w mg fa h Y G hmg0
  obtain ⟨K, KX, c⟩ := Y
  have hmg : mg ("law" : PySem.Str) = some (.ref fa) := by
    rw [← he_name]
    exact hmg0
  obtain ⟨fd, hb, hm, hF⟩ := all_mk (l := PySem.Challenge.rw_tworooms_k04_parts_cover_a_set) (w := w) (base := h) KX G c
  have ea : fa = He.ga K "law" := by
    have z := hmg.symm.trans hm
    injection z with z
    injection z
  subst ea
  exact ⟨K, fd, spLaw K, KX, hb, fun H a ns hl _ hS => ⟨a, ns, rfl, hS, hl, fun _ => rfl⟩, fun base _ _ => hF base⟩
end K01
open PySem PySem.W PySem.Calls PyProof.Rows
set_option maxHeartbeats 0 in
theorem PySem.Challenge.cw_tworooms_k04_parts_cover_a_set_holds : PySem.Challenge.rw_tworooms_k04_parts_cover_a_set.Holds := by
  w_on; o_law
  refine HandSHeadRun.head_any (r := K01.RR) (q := K01.QQ) (H := HX.hookX K01.glL K01.clL K01.faL K01.fnL) (ob := K01.obL) (M := 20000) (loose := K01.otherNames) (d := K01.DD) (kwd := []) K01.ob_eq K01.he_open K01.he_fence K01.run_eq K01.he_def K01.he_the K01.he_kw K01.he_wr K01.he_said K01.he_ok K01.he_bare ?hw K01.he_call
  case hw => w_witness2
