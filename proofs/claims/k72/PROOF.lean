import PyProof.Rows.All
import Wide.All
import OpenK.AllK
import Wide.FinOn
import HandS.ForMost
import HandS.Wide
import HandS.IsInst
import HandS.ReplaceLit
import HandS.Codes
import HandS.ReplaceDef
import HandS.Base
import HandS.Comp
import HandS.HotCalls
import KE.KExcIs
import HandS.Exc
import HandS.ExcOwn
import HandS.ExcField
import HandS.ExcIs
import HandS.ExcInit
import HandS.ExcCtx
import HandS.Words
import HandS.Dict
import HandS.More
import HandS.WrittenGet
import HandS.Style
import HandS.WordsExc
import HandS.Defaults
import HandS.Star
import KE.KStar
import HandS.FStr
import PySem.Challenge.RW_tworooms_k72_text_of_trees
set_option Elab.async false
set_option linter.all false
set_option maxRecDepth 100000
set_option maxHeartbeats 4000000
namespace K01
open PySem PySem.Spec PyProof.Rows L2
def topS (i : Nat) : Stmt := PySem.Challenge.pw_tworooms_k72_text_of_trees.main.body.getD i (.Pass ⟨0, 0, 0, 0⟩)
/-- built-ins that the top leaves as they are -/
structure Bi (mg : Str → Option Value) : Prop where
  len : mg "len" = none
  range : mg "range" = none
  abs : mg "abs" = none
  ord : mg "ord" = none
  min : mg "min" = none
  max : mg "max" = none
  all : mg "all" = none
  isinstance : mg "isinstance" = none
  int_ : mg "int" = none
  str_ : mg "str" = none
  bool_ : mg "bool" = none
  list_ : mg "list" = none
  tuple_ : mg "tuple" = none
  dict_ : mg "dict" = none
/-- a def of the top -/
structure Dn (K : PySem.W.Frag) (mg : Str → Option Value) (x : Str) (st : Stmt) (ps : List Str) (f : Addr) (fd : FuncData) : Prop where
  F : Fun K x x st f fd
  g : mg x = some (.ref f)
  b : Binds K fd ps []
/-! ### readings that simp can take -/
theorem callR_mono {X : Cx} {f : Value} {r r' : List V → Hp → VK → Prop} (h : CallR X f r) (k : ∀ xs H Q, r' xs H Q → r xs H Q) : CallR X f r' :=
  fun pins s σ H xs us Q I rv q => h pins s σ H xs us Q I rv (k _ _ _ q)
theorem r_seq {t u : TS} {D : Ends} {σ : L2.St} {H : Hp} (h : t { D with nx := u D } σ H) : tSeq t u D σ H := h
theorem r_cut {t u : TS} {D : Ends} {σ : L2.St} {H : Hp} (M : L2.St → Hp → Prop) (h1 : ∀ N : L2.St → Hp → Prop, (∀ σ H, M σ H → N σ H) → t { D with nx := N } σ H) (h2 : ∀ σ' H', M σ' H' → u D σ' H') : C8.tCut t u D σ H := ⟨M, h1 M (fun _ _ h => h), h2⟩
/-! ### loops and comprehensions, folded -/
def LoopR (lo : Int) (n : Nat) (g : TG) (tb : TS) (D : Ends) (σ : L2.St) (H : Hp) : Prop := ∃ W : Nat → Nat → L2.St → Hp → Prop, (∃ m, W 0 m σ H) ∧ ∀ i m σ H, W i m σ H →
  ((Itr lo n).stop i H ∧ D.nx σ H) ∨ ((Itr lo n).go i H ∧ ∃ N : L2.St → Hp → Prop, (∀ σ' H', N σ' H' → ∃ m', m' < m ∧ W (i + 1) m' σ' H') ∧ ∀ x H', (Itr lo n).yld i H x H' → g x σ H' fun σ2 H2 => tb { D with nx := N, ct := N, bk := D.nx } σ2 H2)
def LoopL (K : PySem.W.Frag) (a : Addr) (g : TG) (tb : TS) (D : Ends) (σ : L2.St) (H : Hp) : Prop := ∃ W : Nat → Nat → L2.St → Hp → Prop, (∃ m, W 0 m σ H) ∧ ∀ i m σ H, W i m σ H →
  ((Itl K a).stop i H ∧ D.nx σ H) ∨ ((Itl K a).go i H ∧ ∃ N : L2.St → Hp → Prop, (∀ σ' H', N σ' H' → ∃ m', m' < m ∧ W (i + 1) m' σ' H') ∧ ∀ x H', (Itl K a).yld i H x H' → g x σ H' fun σ2 H2 => tb { D with nx := N, ct := N, bk := D.nx } σ2 H2)
def LoopS (z : Str) (g : TG) (tb : TS) (D : Ends) (σ : L2.St) (H : Hp) : Prop := ∃ W : Nat → Nat → L2.St → Hp → Prop, (∃ m, W 0 m σ H) ∧ ∀ i m σ H, W i m σ H →
  ((Its z).stop i H ∧ D.nx σ H) ∨ ((Its z).go i H ∧ ∃ N : L2.St → Hp → Prop, (∀ σ' H', N σ' H' → ∃ m', m' < m ∧ W (i + 1) m' σ' H') ∧ ∀ x H', (Its z).yld i H x H' → g x σ H' fun σ2 H2 => tb { D with nx := N, ct := N, bk := D.nx } σ2 H2)
theorem forR_eq {ta : TA} {g : TG} {tb : TS} {D : Ends} {σ : L2.St} {H : Hp} : tFor (iRng1 ta) g tb D σ H = ta σ H (fun vs H1 => ∃ j : Int, vs = [V.int j] ∧ -(2 ^ 62) ≤ j ∧ j < 2 ^ 62 ∧ LoopR 0 j.toNat g tb D σ H1) := rfl
theorem forR2_eq {ta : TA} {g : TG} {tb : TS} {D : Ends} {σ : L2.St} {H : Hp} : tFor (iRng2 ta) g tb D σ H = ta σ H (fun vs H1 => ∃ i j : Int, vs = [V.int i, V.int j] ∧ (-(2 ^ 62) ≤ i ∧ i < 2 ^ 62 ∧ -(2 ^ 62) ≤ j ∧ j < 2 ^ 62) ∧ LoopR i (j - i).toNat g tb D σ H1) := rfl
theorem forS_eq {te : TE} {g : TG} {tb : TS} {D : Ends} {σ : L2.St} {H : Hp} : tFor (iStr te) g tb D σ H = te σ H (fun v H1 => ∃ z, v = V.str z ∧ LoopS z g tb D σ H1) := rfl
theorem forL_eq {K : PySem.W.Frag} {te : TE} {g : TG} {tb : TS} {D : Ends} {σ : L2.St} {H : Hp} : tFor (iList K te) g tb D σ H = te σ H (fun v H1 => ∃ a, v = V.ref a ∧ ∃ xs, SqL K H1 a xs ∧ LoopL K a g tb D σ H1) := by
  show te σ H _ = te σ H _
  congr 1
  funext v H1
  refine propext ⟨fun ⟨a, e, ⟨xs, h⟩, q⟩ => ⟨a, e, xs, h, q⟩, fun ⟨a, e, xs, h, q⟩ => ⟨a, e, ⟨xs, h⟩, q⟩⟩
theorem r_range {lo : Int} {n : Nat} {g : TG} {tb : TS} {D : Ends} {σ : L2.St} {H : Hp} (Pv : Nat → L2.St → Hp → Prop) (h0 : Pv 0 σ H)
    (hs : ∀ i σ H, i < n → Pv i σ H → ∀ N : L2.St → Hp → Prop, (∀ σ H, Pv (i + 1) σ H → N σ H) → g (.int (lo + i)) σ H fun σ2 H2 => tb { D with nx := N, ct := N, bk := D.nx } σ2 H2) (hd : ∀ σ H, Pv n σ H → D.nx σ H) : LoopR lo n g tb D σ H :=
  for_range Pv h0 (fun i σ H hi hp => hs i σ H hi hp _ (fun _ _ h => h)) hd
theorem r_list {K : PySem.W.Frag} {a : Addr} (xs : List V) {g : TG} {tb : TS} {D : Ends} {σ : L2.St} {H : Hp} (Pv : Nat → L2.St → Hp → Prop) (h0 : Pv 0 σ H) (hl : ∀ i σ H, i ≤ xs.length → Pv i σ H → SqL K H a xs)
    (hs : ∀ i x σ H, xs[i]? = some x → Pv i σ H → ∀ N : L2.St → Hp → Prop, (∀ σ H, Pv (i + 1) σ H → N σ H) → g x σ H fun σ2 H2 => tb { D with nx := N, ct := N, bk := D.nx } σ2 H2) (hd : ∀ σ H, Pv xs.length σ H → D.nx σ H) : LoopL K a g tb D σ H :=
  for_list Pv h0 hl (fun i x σ H hi hp => hs i x σ H hi hp _ (fun _ _ h => h)) hd
theorem r_str (z : Str) {g : TG} {tb : TS} {D : Ends} {σ : L2.St} {H : Hp} (Pv : Nat → L2.St → Hp → Prop) (h0 : Pv 0 σ H)
    (hs : ∀ i c σ H, z.cps.toList[i]? = some c → Pv i σ H → ∀ N : L2.St → Hp → Prop, (∀ σ H, Pv (i + 1) σ H → N σ H) → g (.str ⟨#[c]⟩) σ H fun σ2 H2 => tb { D with nx := N, ct := N, bk := D.nx } σ2 H2) (hd : ∀ σ H, Pv z.cps.toList.length σ H → D.nx σ H) : LoopS z g tb D σ H := by
  refine ⟨fun i m σ H => m = z.cps.toList.length - i ∧ i ≤ z.cps.toList.length ∧ Pv i σ H, ⟨_, rfl, Nat.zero_le _, h0⟩, ?_⟩
  rintro i m σ H ⟨rfl, hi, p⟩
  have el : z.cps.toList.length = z.cps.size := Array.length_toList
  by_cases hlt : i < z.cps.toList.length
  · refine .inr ⟨by rw [el] at hlt; exact hlt, Pv (i + 1), fun σ' H' p' => ⟨z.cps.toList.length - (i + 1), by omega, rfl, hlt, p'⟩, fun x H' y => ?_⟩
    obtain ⟨e, c, hc, ex⟩ := y
    subst e ex
    refine hs i c σ _ ?_ p _ fun _ _ h => h
    rw [Array.getElem?_toList]
    exact hc
  · have e : i = z.cps.toList.length := by omega
    subst e
    exact .inl ⟨by show z.cps.size ≤ z.cps.toList.length; omega, hd σ H p⟩
def LcL (K : PySem.W.Frag) (a : Addr) (g : TG) (te : TE) (vs : List Nat) (σ : L2.St) (H1 : Hp) (D : Addr) (Q : Hp → Prop) : Prop := ∃ W : Nat → Nat → Hp → Prop, (∃ m, W 0 m (upd H1 D (.lst []))) ∧ ∀ i m H, W i m H →
  ((Itl K a).stop i H ∧ Q H) ∨ ((Itl K a).go i H ∧ ∃ Nx : Hp → Prop, (∀ H', Nx H' → ∃ m', m' < m ∧ W (i + 1) m' H') ∧ ∀ x H', (Itl K a).yld i H x H' → g x (wipe σ vs) H' fun σ2 H2 => wipe σ2 vs = wipe σ vs ∧ tYes σ2 H2 fun b H3 =>
    if b = true then te σ2 H3 fun y H4 => ∃ acc, H4 D = some (.lst acc) ∧ acc.length < sizeLine ∧ Nx (upd H4 D (.lst (acc ++ [y]))) else Nx H3)
def LcR (lo : Int) (n : Nat) (g : TG) (te : TE) (vs : List Nat) (σ : L2.St) (H1 : Hp) (D : Addr) (Q : Hp → Prop) : Prop := ∃ W : Nat → Nat → Hp → Prop, (∃ m, W 0 m (upd H1 D (.lst []))) ∧ ∀ i m H, W i m H →
  ((Itr lo n).stop i H ∧ Q H) ∨ ((Itr lo n).go i H ∧ ∃ Nx : Hp → Prop, (∀ H', Nx H' → ∃ m', m' < m ∧ W (i + 1) m' H') ∧ ∀ x H', (Itr lo n).yld i H x H' → g x (wipe σ vs) H' fun σ2 H2 => wipe σ2 vs = wipe σ vs ∧ tYes σ2 H2 fun b H3 =>
    if b = true then te σ2 H3 fun y H4 => ∃ acc, H4 D = some (.lst acc) ∧ acc.length < sizeLine ∧ Nx (upd H4 D (.lst (acc ++ [y]))) else Nx H3)
def LcS (z : Str) (g : TG) (te : TE) (vs : List Nat) (σ : L2.St) (H1 : Hp) (D : Addr) (Q : Hp → Prop) : Prop := ∃ W : Nat → Nat → Hp → Prop, (∃ m, W 0 m (upd H1 D (.lst []))) ∧ ∀ i m H, W i m H →
  ((Its z).stop i H ∧ Q H) ∨ ((Its z).go i H ∧ ∃ Nx : Hp → Prop, (∀ H', Nx H' → ∃ m', m' < m ∧ W (i + 1) m' H') ∧ ∀ x H', (Its z).yld i H x H' → g x (wipe σ vs) H' fun σ2 H2 => wipe σ2 vs = wipe σ vs ∧ tYes σ2 H2 fun b H3 =>
    if b = true then te σ2 H3 fun y H4 => ∃ acc, H4 D = some (.lst acc) ∧ acc.length < sizeLine ∧ Nx (upd H4 D (.lst (acc ++ [y]))) else Nx H3)
theorem lcL_eq {K : PySem.W.Frag} {tl te : TE} {g : TG} {vs : List Nat} {σ : L2.St} {H : Hp} {Q : VK} : tLc (iList K tl) g tYes te vs σ H Q = tl σ H (fun v H1 => ∃ a, v = V.ref a ∧ ∃ xs, SqL K H1 a xs ∧ ∀ D, H1 D = none → LcL K a g te vs σ H1 D (Q (.ref D))) := by
  show tl σ H _ = tl σ H _
  congr 1
  funext v H1
  exact propext ⟨fun ⟨a, e, ⟨xs, h⟩, q⟩ => ⟨a, e, xs, h, q⟩, fun ⟨a, e, xs, h, q⟩ => ⟨a, e, ⟨xs, h⟩, q⟩⟩
theorem lcR_eq {ta : TA} {te : TE} {g : TG} {vs : List Nat} {σ : L2.St} {H : Hp} {Q : VK} : tLc (iRng1 ta) g tYes te vs σ H Q = ta σ H (fun vs' H1 => ∃ j : Int, vs' = [V.int j] ∧ -(2 ^ 62) ≤ j ∧ j < 2 ^ 62 ∧ ∀ D, H1 D = none → LcR 0 j.toNat g te vs σ H1 D (Q (.ref D))) := rfl
theorem lcS_eq {tl te : TE} {g : TG} {vs : List Nat} {σ : L2.St} {H : Hp} {Q : VK} : tLc (iStr tl) g tYes te vs σ H Q = tl σ H (fun v H1 => ∃ z, v = V.str z ∧ ∀ D, H1 D = none → LcS z g te vs σ H1 D (Q (.ref D))) := rfl
/-- a comprehension without a test; N: what is behind a turn -/
theorem r_lcL {K : PySem.W.Frag} {a : Addr} (xs : List V) {j : Nat} {te : TE} {vs : List Nat} {σ : L2.St} {H1 : Hp} {D : Addr} {Qd : Hp → Prop} (Pv : Nat → Hp → Prop) (hw : ∀ x, wipe ((wipe σ vs).set j (some x)) vs = wipe σ vs)
    (h0 : Pv 0 (upd H1 D (.lst []))) (hl : ∀ i H, i ≤ xs.length → Pv i H → SqL K H a xs)
    (hs : ∀ i x H, xs[i]? = some x → Pv i H → ∀ N : VK, (∀ y H4 acc, H4 D = some (.lst acc) → acc.length < sizeLine → Pv (i + 1) (upd H4 D (.lst (acc ++ [y]))) → N y H4) → te ((wipe σ vs).set j (some x)) H N) (hd : ∀ H, Pv xs.length H → Qd H) : LcL K a (gName j) te vs σ H1 D Qd :=
  lc_list (g := gName j) (tt := tYes) Pv h0 hl (fun i x H hx hp => ⟨hw x, by
    simp only [tYes, if_pos]
    exact hs i x H hx hp _ fun y H4 acc h1 h2 h3 => ⟨acc, h1, h2, h3⟩⟩) hd
theorem r_lcR {lo : Int} {n : Nat} {j : Nat} {te : TE} {vs : List Nat} {σ : L2.St} {H1 : Hp} {D : Addr} {Qd : Hp → Prop} (Pv : Nat → Hp → Prop) (hw : ∀ x, wipe ((wipe σ vs).set j (some x)) vs = wipe σ vs)
    (h0 : Pv 0 (upd H1 D (.lst [])))
    (hs : ∀ i H, i < n → Pv i H → ∀ N : VK, (∀ y H4 acc, H4 D = some (.lst acc) → acc.length < sizeLine → Pv (i + 1) (upd H4 D (.lst (acc ++ [y]))) → N y H4) → te ((wipe σ vs).set j (some (.int (lo + i)))) H N) (hd : ∀ H, Pv n H → Qd H) : LcR lo n (gName j) te vs σ H1 D Qd :=
  lc_range (g := gName j) (tt := tYes) Pv h0 (fun i H hi hp => ⟨hw _, by
    simp only [tYes, if_pos]
    exact hs i H hi hp _ fun y H4 acc h1 h2 h3 => ⟨acc, h1, h2, h3⟩⟩) hd
theorem r_lcS (z : Str) {j : Nat} {te : TE} {vs : List Nat} {σ : L2.St} {H1 : Hp} {D : Addr} {Qd : Hp → Prop} (Pv : Nat → Hp → Prop) (hw : ∀ x, wipe ((wipe σ vs).set j (some x)) vs = wipe σ vs)
    (h0 : Pv 0 (upd H1 D (.lst [])))
    (hs : ∀ i c H, z.cps.toList[i]? = some c → Pv i H → ∀ N : VK, (∀ y H4 acc, H4 D = some (.lst acc) → acc.length < sizeLine → Pv (i + 1) (upd H4 D (.lst (acc ++ [y]))) → N y H4) → te ((wipe σ vs).set j (some (.str ⟨#[c]⟩))) H N) (hd : ∀ H, Pv z.cps.toList.length H → Qd H) : LcS z (gName j) te vs σ H1 D Qd := by
  refine ⟨fun i m H => m = z.cps.toList.length - i ∧ i ≤ z.cps.toList.length ∧ Pv i H, ⟨_, rfl, Nat.zero_le _, h0⟩, ?_⟩
  rintro i m H ⟨rfl, hi, p⟩
  have el : z.cps.toList.length = z.cps.size := Array.length_toList
  by_cases hlt : i < z.cps.toList.length
  · refine .inr ⟨by rw [el] at hlt; exact hlt, Pv (i + 1), fun H' p' => ⟨z.cps.toList.length - (i + 1), by omega, rfl, hlt, p'⟩, fun x H' y => ?_⟩
    obtain ⟨e, c, hc, ex⟩ := y
    subst e ex
    refine ⟨hw _, ?_⟩
    simp only [tYes, if_pos]
    exact hs i c _ (by rw [Array.getElem?_toList]; exact hc) p _ fun y H4 acc h1 h2 h3 => ⟨acc, h1, h2, h3⟩
  · have e : i = z.cps.toList.length := by omega
    subst e
    exact .inl ⟨by show z.cps.size ≤ z.cps.toList.length; omega, hd H p⟩
/-! ### built-ins, by named readings -/
def rLenX (K : PySem.W.Frag) (xs : List V) (H : Hp) (Q : VK) : Prop := ∃ p, xs = [V.ref p] ∧ ∃ ys, (SqL K H p ys ∨ SqT K H p ys) ∧ Q (.int ys.length) H
theorem call_lenX {X : Cx} : CallR X (.builtin "len") (rLenX X.K) := callR_mono call_len_seq fun xs H Q ⟨p, e, ys, h, q⟩ => ⟨p, ys, e, h, q⟩
def rLenS (xs : List V) (H : Hp) (Q : VK) : Prop := ∃ z, xs = [V.str z] ∧ z.length ≤ sizeLine ∧ Q (.int z.length) H
theorem call_lenS {X : Cx} : CallR X (.builtin "len") rLenS := callR_mono call_len_str fun xs H Q h => h
def rIntI (xs : List V) (H : Hp) (Q : VK) : Prop := ∃ i, xs = [V.int i] ∧ Q (.int i) H
theorem call_intI {X : Cx} : CallR X (.type "int") rIntI := callR_mono call_int1 fun _ _ _ h => .inl h
def rIntB (xs : List V) (H : Hp) (Q : VK) : Prop := ∃ k, xs = [V.bl k] ∧ Q (.int (if k = true then 1 else 0)) H
theorem call_intB {X : Cx} : CallR X (.type "int") rIntB := callR_mono call_int1 fun _ _ _ h => .inr h
def rIntS (xs : List V) (H : Hp) (Q : VK) : Prop := ∃ z, xs = [V.str z] ∧ ∃ n, PySem.intText? z = some n ∧ z.length ≤ 640 ∧ Q (.int n) H
theorem call_intS {X : Cx} : CallR X (.type "int") rIntS := callR_mono call_int_str fun _ _ _ ⟨z, e, n, h1, h2, q⟩ => ⟨z, n, e, h1, h2, q⟩
def rStrI (xs : List V) (H : Hp) (Q : VK) : Prop := ∃ i, xs = [V.int i] ∧ i.natAbs.log2 < 1920 ∧ Q (.str (toString i)) H
theorem call_strI {X : Cx} : CallR X (.type "str") rStrI := callR_mono call_str_int fun _ _ _ h => h
def rAbs (xs : List V) (H : Hp) (Q : VK) : Prop := ∃ i, xs = [V.int i] ∧ Q (.int (if i < 0 then -i else i)) H
theorem call_absI {X : Cx} : CallR X (.builtin "abs") rAbs := callR_mono call_abs fun _ _ _ h => h
def rOrd (xs : List V) (H : Hp) (Q : VK) : Prop := ∃ c : Nat, xs = [V.str ⟨#[c]⟩] ∧ Q (.int c) H
theorem call_ordI {X : Cx} : CallR X (.builtin "ord") rOrd := callR_mono call_ord fun _ _ _ ⟨c, e, q⟩ => ⟨_, e, rfl, q⟩
def rMin (xs : List V) (H : Hp) (Q : VK) : Prop := ∃ i j, xs = [V.int i, V.int j] ∧ Q (.int (if j < i then j else i)) H
theorem call_minI {X : Cx} (hc : X.calm = true) : CallR X (.builtin "min") rMin := callR_mono (call_min2 hc) fun _ _ _ h => h
def rMax (xs : List V) (H : Hp) (Q : VK) : Prop := ∃ i j, xs = [V.int i, V.int j] ∧ Q (.int (if j > i then j else i)) H
theorem call_maxI {X : Cx} (hc : X.calm = true) : CallR X (.builtin "max") rMax := callR_mono (call_max2 hc) fun _ _ _ h => h
def rSplit (x : V) (xs : List V) (H : Hp) (Q : VK) : Prop := ∃ a, x = .str a ∧ ∃ b, xs = [V.str b] ∧ (b.length == 0) = false ∧ a.length + 2 ≤ sizeLine ∧ ∀ p, H p = none → Q (.ref p) (L2.upd H p (.lst ((Txt.split a b).map V.str)))
def rJoin (K : PySem.W.Frag) (x : V) (xs : List V) (H : Hp) (Q : VK) : Prop := ∃ a, x = .str a ∧ ∃ p, xs = [V.ref p] ∧ ∃ ys : List Str, SqL K H p (ys.map V.str) ∧ (ys.map (·.length)).sum + ys.length * a.length ≤ 16777216 ∧ Q (.str (Txt.join a ys)) H
theorem mtR_mono {X : Cx} {id : String} {r r' : V → List V → Hp → VK → Prop} (h : MtR X id r) (k : ∀ x xs H Q, r' x xs H Q → r x xs H Q) : MtR X id r' :=
  fun pins s σ H x xs v us Q I rx rv q => h pins s σ H x xs v us Q I rx rv (k _ _ _ _ q)
def rSplitN (x : V) (xs : List V) (H : Hp) (Q : VK) : Prop := ∃ a, x = .str a ∧ ∃ b, xs = [V.str b] ∧ (b.length == 0) = false ∧ a.length + 2 ≤ sizeLine ∧ ∀ p, H p = none → Q (.ref p) (L2.upd H p (.lst ((Txt.split a b).map V.str)))
theorem mt_splitN {X : Cx} : MtR X "str.split" rSplitN := mtR_mono mt_split fun _ _ _ _ ⟨a, e, b, e2, h, h2, q⟩ => ⟨a, b, e, e2, h, h2, q⟩
def rJoinN (K : PySem.W.Frag) (x : V) (xs : List V) (H : Hp) (Q : VK) : Prop := ∃ a, x = .str a ∧ ∃ p, xs = [V.ref p] ∧ ∃ ys : List Str, SqL K H p (ys.map V.str) ∧ (ys.map (·.length)).sum + ys.length * a.length ≤ 16777216 ∧ Q (.str (Txt.join a ys)) H
theorem mt_joinN {X : Cx} : MtR X "str.join" (rJoinN X.K) := mtR_mono mt_join fun _ _ _ _ ⟨a, e, p, e2, ys, h, h2, q⟩ => ⟨a, p, ys, e, e2, .inl h, h2, q⟩
/-- an item of a list or a tuple -/
def rIxX (K : PySem.W.Frag) : R2 := fun x y H Q => ∃ p i, x = .ref p ∧ y = .int i ∧ ∃ xs, (SqL K H p xs ∨ SqT K H p xs) ∧ ∃ v, atI xs i = some v ∧ Q v H
theorem ix_sx {X : Cx} : IxR X (rIxX X.K) := by
  intro value slice pins s σ H x y v u Q I rx ry h hs
  obtain ⟨p, i, e1, e2, xs, hq | hq, z, he, q⟩ := h
  · exact ix_list value slice pins s σ H x y v u Q I rx ry ⟨p, xs, i, z, e1, e2, hq, he, q⟩ hs
  · exact ix_tup value slice pins s σ H x y v u Q I rx ry ⟨p, xs, i, z, e1, e2, hq, he, q⟩ hs
/-! ### the same rules with the written part named -/
theorem ix_listK {X : Cx} {K : PySem.W.Frag} (h : X.K = K := by rfl) : IxR X (rIxL K) := h ▸ ix_list
theorem ix_tupK {X : Cx} {K : PySem.W.Frag} (h : X.K = K := by rfl) : IxR X (rIxT K) := h ▸ ix_tup
theorem ix_sxK {X : Cx} {K : PySem.W.Frag} (h : X.K = K := by rfl) : IxR X (rIxX K) := h ▸ ix_sx
theorem sl_listK {X : Cx} {K : PySem.W.Frag} (h : X.K = K := by rfl) : SlR X (rSlL K) := h ▸ sl_list
theorem call_lenXK {X : Cx} {K : PySem.W.Frag} (h : X.K = K := by rfl) : CallR X (.builtin "len") (rLenX K) := h ▸ call_lenX
theorem mt_joinK {X : Cx} {K : PySem.W.Frag} (h : X.K = K := by rfl) : MtR X "str.join" (rJoinN K) := h ▸ mt_joinN
theorem pi_listK {X : Cx} {K : PySem.W.Frag} {tg l : Expr} {tl : TE} (hl : PE X l tl) (h : X.K = K := by rfl) : PI X tg l (iList K tl) := h ▸ pi_list hl
theorem atI_get {α : Type} {xs : List α} {i : Int} (h0 : 0 ≤ i) (h : i.toNat < xs.length) : ∃ z, atI xs i = some z ∧ xs[i.toNat]? = some z := by
  have e : i = (i.toNat : Int) := by omega
  have g := List.getElem?_eq_getElem h
  exact ⟨_, (congrArg (atI xs) e).trans (atI_nat g), g⟩
theorem atI_map {ns : List Int} {i : Int} (h0 : 0 ≤ i) (h : i.toNat < ns.length) : ∃ z, atI (ns.map V.int) i = some (.int z) := by
  obtain ⟨z, e1, e2⟩ := atI_get (xs := ns.map V.int) h0 (by rw [List.length_map]; exact h)
  rw [List.getElem?_map] at e2
  cases e : ns[i.toNat]? with
  | none =>
    rw [e] at e2
    cases e2
  | some y =>
    rw [e] at e2
    cases e2
    exact ⟨y, e1⟩
theorem map_get {α β : Type} {f : α → β} {xs : List α} {i : Nat} {y : β} (h : (xs.map f)[i]? = some y) : ∃ x, xs[i]? = some x ∧ y = f x := by
  rw [List.getElem?_map] at h
  cases e : xs[i]? with
  | none => rw [e] at h; cases h
  | some x => rw [e] at h; exact ⟨x, rfl, (Option.some.inj h).symm⟩
theorem take_map {α β : Type} {f : α → β} {xs : List α} {i : Nat} {x : α} (h : xs[i]? = some x) : (xs.take i).map f ++ [f x] = (xs.take (i + 1)).map f := by
  rw [List.take_add_one, h, List.map_append]
  rfl
theorem lt_of_get {α : Type} {xs : List α} {i : Nat} {x : α} (h : xs[i]? = some x) : i < xs.length := (List.getElem?_eq_some_iff.mp h).1
theorem start1 {N : List Str} {vs : List V} : L2.start N vs = vs.map some ++ List.replicate (N.length - vs.length) none := rfl
theorem sq_of {K : PySem.W.Frag} {H : Hp} {a : Addr} {xs : List V} (h : H a = some (.lst xs)) : SqL K H a xs := .inl (.inl h)
/-- all that was tracked stands, but what is at a -/
def But (a : Addr) (H H' : Hp) : Prop := ∀ b o, b ≠ a → H b = some o → H' b = some o
theorem But.refl (a : Addr) (H : Hp) : But a H H := fun _ _ _ h => h
theorem But.trans {a : Addr} {H H1 H2 : Hp} (p : But a H H1) (q : But a H1 H2) : But a H H2 := fun b o n h => q b o n (p b o n h)
theorem But.updA {a : Addr} {H : Hp} {o : HO} : But a H (L2.upd H a o) := fun b x n h => by rw [upd_ne n]; exact h
theorem But.new {a p : Addr} {H : Hp} {o : HO} (h : H p = none) : But a H (upd H p o) := fun b x _ e => by rw [upd_ne (ne_of_none e h)]; exact e
theorem But.of {a : Addr} {H H' : Hp} (h : Same H H') : But a H H' := fun b o _ e => h b o e
theorem Same.new {p : Addr} {H : Hp} {o : HO} (h : H p = none) : Same H (upd H p o) := fun b x e => by rw [upd_ne (ne_of_none e h)]; exact e
theorem But.same {c : Addr} {H H' : Hp} (n : H c = none) (h : But c H H') : Same H H' := fun b o e => h b o (ne_of_none e n) e
theorem But.seq {K : PySem.W.Frag} {c a : Addr} {H H' : Hp} {xs : List V} (h : But c H H') (n : a ≠ c) (S : SqL K H a xs) : SqL K H' a xs := by
  rcases S with (S | ⟨o, S⟩) | S
  · exact .inl (.inl (h _ _ n S))
  · exact .inl (.inr ⟨o, h _ _ n S⟩)
  · exact .inr S
end K01
namespace K01
open PySem PySem.Spec PyProof.Rows L2
def rAllK (K : PySem.W.Frag) (vs : List V) (H : Hp) (Q : VK) : Prop := ∃ a, vs = [V.ref a] ∧ ∃ bs : List Bool, SqL K H a (bs.map V.bl) ∧ Q (.bl (bs.all id)) H
theorem call_allK {X : Cx} {K : PySem.W.Frag} (h : X.K = K := by rfl) (hc : X.calm = true := by rfl) : CallR X (.builtin "all") (rAllK K) := callR_mono (h ▸ cr_all hc) fun _ _ _ ⟨a, e, bs, h1, q⟩ => ⟨a, bs, e, h1, q⟩
theorem opR_mono {X : Cx} {f : Value → Value → Sem Value} {r r' : R2} (h : OpR X f r) (k : ∀ x y H Q, r' x y H Q → r x y H Q) : OpR X f r' := fun pins s σ H x y v u Q I rx ry q => h pins s σ H x y v u Q I rx ry (k _ _ _ _ q)
def rInSg (x y : V) (H : Hp) (Q : VK) : Prop := ∃ c : Nat, x = .str ⟨#[c]⟩ ∧ ∃ z : Str, y = .str z ∧ Q (.bl (decide (c ∈ z.cps.toList))) H
theorem op_inSg {X : Cx} : OpR X (compareOp .In) rInSg := opR_mono op_in_sign fun _ _ _ _ ⟨c, e, z, e2, q⟩ => ⟨c, z, e, e2, q⟩
def rNinSg (x y : V) (H : Hp) (Q : VK) : Prop := ∃ c : Nat, x = .str ⟨#[c]⟩ ∧ ∃ z : Str, y = .str z ∧ Q (.bl (!decide (c ∈ z.cps.toList))) H
theorem op_ninSg {X : Cx} : OpR X (compareOp .NotIn) rNinSg := opR_mono op_notIn_sign fun _ _ _ _ ⟨c, e, z, e2, q⟩ => ⟨c, z, e, e2, q⟩
theorem sgn_inj {a b : Nat} : ((⟨#[a]⟩ : Str) = ⟨#[b]⟩) = (a = b) := propext ⟨fun h => by
  have e := congrArg (fun z : Str => z.cps.toList) h
  simpa using e, fun h => by rw [h]⟩
def rAddS (x y : V) (H : Hp) (Q : VK) : Prop := ∃ i, x = .str i ∧ ∃ j, y = .str j ∧ i.length + j.length ≤ sizeLine ∧ Q (.str (i ++ j)) H
theorem op_addS {X : Cx} : OpR X (binaryOp .Add) rAddS := opR_mono op_add_str fun _ _ _ _ ⟨i, e, j, e2, h, q⟩ => ⟨i, j, e, e2, h, q⟩
def rInSt (x y : V) (H : Hp) (Q : VK) : Prop := ∃ i, x = .str i ∧ ∃ j, y = .str j ∧ Q (.bl (!(Builtin.Str.occurrences j i 0 j.length 1).isEmpty)) H
theorem op_inSt {X : Cx} : OpR X (compareOp .In) rInSt := opR_mono op_in_str fun _ _ _ _ ⟨i, e, j, e2, q⟩ => ⟨i, j, e, e2, q⟩
end K01
namespace K01
open PySem PySem.Spec PyProof.Rows L2
/-! ### where a token is out -/
theorem okT {P : Program} {w : World} {K : PySem.W.Frag} {mg : Str → Option Value} {base : Heap} {x qual : Str} {st : Stmt} {f : Addr} {fd : FuncData} {N ps : List Str} {k : Nat} {sp : Sp} (F : Fun K x qual st f fd) (S : FnScope N ps (defScope st))
    (nc : ∀ y ∈ (defScope st).names, y.2 ≠ .cell) (one : 1 ≤ ps.length) (ln : ∀ vs H Q E, sp vs H Q E → vs.length = ps.length)
    (body : ∀ (cv : Value) (A : Around) (ou : List Env) (s : Shared) (H : Hp) (vs : List V) (Q : VK) (E : XK), Room k (A.deeper (envOfC qual (defScope st) s.heap.objs.size f cv)) → sp vs H Q E →
      ∃ t, PSsT (cxOf CX0 P w K mg base N qual (defScope st) f cv A ou s H E) (defBody st) t ∧ t { nx := fun _ H' => Q .non H', rt := Q } (L2.start N vs) H) : FnOk P w K mg base CX0 (k + 1) f fd ps sp := by
  obtain ⟨oc, od, kV, doc, pm, an, cv, ct, osl, e, lk, hcd⟩ := F.ex
  subst e
  exact fn_ofT lk hcd S nc one ln fun A ou s H vs Q E hr hs => body cv A ou s H vs Q E hr hs
section
variable {X : Cx}
structure PA1 (X : Cx) (es : List Expr) (t : TA) : Prop where
  go : ∀ (ps : Pos) (pn : List (Addr × Obj)) (s : Shared) (σ : L2.St) (H : Hp) (Q : List V → Hp → Prop), Inv X pn σ H s → t σ H Q →
    wpAny (model X.prog X.w) X.A (spliced (backTo ps (starEach es X.env))) (fun us s' => 1 ≤ s'.toks ∧ AP X pn σ Q us s') X.xe s
theorem pa1_int {i : Int} {j : Nat} {ps : Pos} (hs : starEach [.Constant (.int i) j ps] X.env = [(false, eval (.Constant (.int i) j ps) X.env)] := by rfl) : PA1 X [.Constant (.int i) j ps] (tCons (tC (.int i)) tNil) := by
  refine ⟨fun p0 pn s σ H Q J h => ?_⟩
  rw [hs]
  refine Calls.spliced_cons (wpAny_Constant_int (pos := ps) (k := j) ?_)
  refine Calls.spliced_nil ?_
  exact ⟨by show 1 ≤ s.toks + 1; omega, [.int i], H, J.tok _, .cons ⟨_, rfl⟩ .nil, h⟩
theorem pa1_cons {e : Expr} {es : List Expr} {te : TE} {t : TA} (ha : PE X e te) (hr : PA1 X es t) (hs : starEach (e :: es) X.env = (false, eval e X.env) :: starEach es X.env := by rfl) : PA1 X (e :: es) (tCons te t) := by
  refine ⟨fun p0 pn s σ H Q J h => ?_⟩
  rw [hs]
  refine Calls.spliced_cons (thn (ha.run pn s σ H _ J h) fun u s1 g => ?_)
  obtain ⟨x, H1, J1, rx, q⟩ := g
  refine thn (hr.go p0 pn s1 σ H1 _ J1 q) fun us s2 g => ?_
  obtain ⟨ht, xs, H2, J2, r2, q2⟩ := g
  exact ⟨ht, x :: xs, H2, J2, .cons rx r2, q2⟩
structure PS1 (X : Cx) (st : Stmt) (t : TS) : Prop where
  go : ∀ (pn : List (Addr × Obj)) (s : Shared) (σ : L2.St) (H : Hp) (D : Ends), Inv X pn σ H s → t D σ H → wpAny (model X.prog X.w) X.A (exec st X.env) (fun fl s' => 1 ≤ s'.toks ∧ SP X pn D fl s') X.xe s
theorem ps1_call {CX : CXT} {k i : Nat} {f : Addr} {fd : FuncData} {ps : List Str} {sp : Sp} {dvs : List V} {ds : List Value} {E : XK} {x y : Str} {p p2 pos pos2 : Pos} {e : Expr} {es : List Expr} {t : TA}
    (hN : X.N.Nodup) (hi : X.N[i]? = some y) (hy : Loc X.env.scope y) (F : FnOk X.prog X.w X.K X.mg X.base CX k f fd ps sp) (hr : Room k X.A) (hg : Gl X x) (hm : X.mg x = some (.ref f)) (hk : PySem.W.keepIn X.K (.ref f) = true) (hb : Binds X.K fd ps ds) (hd : Vals dvs ds) (hx : Passes CX X E)
    (ha : PA1 X (e :: es) t) (hdb : (x == ("__debug__" : Str)) = false := by decide) (he : starEach (e :: es) X.env = (false, eval e X.env) :: starEach es X.env := by rfl) (hpl : (backTo pos (starEach es X.env)).any (·.1) = false := by rfl)
    (hs : swapsWith (.Call (.Name x p) (e :: es) [] pos) (some (.Name y p2)) pos2.line X.env = pure false := by rfl) (hf : X.fn y = true ∨ X.env.scope.names.lookup y = some .local := by first | exact .inl rfl | exact .inr rfl | assumption) :
    PS1 X (.Assign [.Name y p2] (.Call (.Name x p) (e :: es) [] pos) pos2) (tAsg (tCall sp dvs E t) (gName i)) := by
  refine ⟨fun pn s σ H D J h => ?_⟩
  refine wpAny_Assign_Name (Q := fun fl s' => 1 ≤ s'.toks ∧ SP X pn D fl s') (wpAny_mono (Q := fun v s2 => 1 ≤ s2.toks ∧ EP X pn σ (fun v H1 => D.nx (σ.set i (some v)) H1) v s2) (wpAny_Call_Name_kw (ld_glob J hg hm ?_ hdb)) (fun v s2 g => ?_) fun _ _ z => z) hs
  · refine PySem.W.callWith_K (h₀ := X.base) J.ok.mod.kin hk (thn (ha.go pos pn s σ H _ J h) fun us s1 g => ?_) he hpl
    obtain ⟨ht, vs, H1, J1, r, q⟩ := g
    exact ⟨J1.kIn, wpAny_mono (wpAny_toks_of ht (run_fn F hr hb hd hx J1 r q)) (fun _ _ z => z) fun _ _ z => z.2⟩
  · obtain ⟨ht, v', H1, J1, rv, q⟩ := g
    exact wpAny_mono (wpAny_toks_of ht (store_ok J1 hN hi hy rv (fun s3 J3 => (⟨_, H1, J3, q⟩ : SP X pn D .next s3)) hf)) (fun _ _ z => z) fun _ _ z => z.2
/-- the first statement gives out a token -/
theorem pss_tok {st : Stmt} {rest : List Stmt} {t u : TS} (h1 : PS1 X st t) (h2 : PSsT X rest u) : PSs X (st :: rest) (tSeq t u) := by
  refine ⟨fun pn s σ H D J h => ?_⟩
  refine wpAny_execs_cons (thn (h1.go pn s σ H { D with nx := u D } J h) fun fl s1 g => ?_)
  obtain ⟨ht, g⟩ := g
  cases fl with
  | ret v => exact g
  | brk => exact g
  | cont => exact g
  | next =>
    obtain ⟨σ1, H1, J1, g⟩ := g
    exact h2 pn s1 σ1 H1 D ht J1 g
theorem pst_setE {i : Nat} {x : Str} {e : Expr} {te : TE} {p2 pos : Pos} (hN : X.N.Nodup) (hi : X.N[i]? = some x) (hx : Loc X.env.scope x) (he : PET X e te) (hs : swapsWith e (some (.Name x p2)) pos.line X.env = pure false := by rfl)
    (hf : X.fn x = true ∨ X.env.scope.names.lookup x = some .local := by first | exact .inl rfl | exact .inr rfl | assumption) : PST X (.Assign [.Name x p2] e pos) (tAsg te (gName i)) := by
  intro pn s σ H D h0 J h
  refine wpAny_Assign_Name (thn (he pn s σ H _ h0 J h) fun v s1 g => ?_) hs
  obtain ⟨y, H1, J1, r1, q1⟩ := g
  exact store_ok J1 hN hi hx r1 (fun s2 J2 => ⟨_, H1, J2, q1⟩) hf
/-- a word between an if and what follows, a token out -/
theorem psst_cut {st : Stmt} {rest : List Stmt} {t u : TS} (h1 : PST X st t) (h2 : PSsT X rest u) : PSsT X (st :: rest) (C8.tCut t u) := by
  intro pn s σ H D h0 J h
  obtain ⟨M, hm, hu⟩ := h
  refine wpAny_execs_cons (wpAny_mono (PySem.wpAny_toks (h1 pn s σ H { D with nx := M } h0 J hm)) (fun fl s1 g => ?_) fun _ _ z => z.2)
  obtain ⟨hk, g⟩ := g
  cases fl with
  | ret v => exact g
  | brk => exact g
  | cont => exact g
  | next =>
    obtain ⟨σ1, H1, J1, g⟩ := g
    exact h2 pn s1 σ1 H1 D (Nat.le_trans h0 hk) J1 (hu σ1 H1 g)
end
end K01
namespace K01
open PySem PySem.Spec PyProof.Rows L2
/-! ### texts times numbers, lists times numbers -/
def rMulS (x y : V) (H : Hp) (Q : VK) : Prop := ∃ z, x = .str z ∧ ∃ n, y = .int n ∧ ∃ L N : Nat, z.length ≤ L ∧ n ≤ (N : Int) ∧ 0 ≤ n ∧ N ≤ 16777216 ∧ L * N ≤ 16777216 ∧ Q (.str (Txt.mul z n)) H
theorem op_mulS {X : Cx} : OpR X (binaryOp .Mult) rMulS := by
  intro pn s σ H x y v u Q J rx ry h
  obtain ⟨z, rfl, n, rfl, L, N, h1, h2, h3, h4, h5, q⟩ := h
  obtain ⟨t, rfl⟩ := rx
  obtain ⟨t', rfl⟩ := ry
  exact SB.mul (mulOk_of L N h1 h2 (by omega) h4 h5) fun tt k => ⟨.str (Txt.mul z n), H, J.tok k, ⟨tt, rfl⟩, q⟩
def rRepL (x y : V) (H : Hp) (Q : VK) : Prop := ∃ l, x = .ref l ∧ ∃ k, y = .int k ∧ ∃ xs, H l = some (.lst xs) ∧ -(2 ^ 63) ≤ k ∧ k < 2 ^ 63 ∧ xs.length * k.toNat ≤ sizeLine ∧ ∀ p, H p = none → Q (.ref p) (L2.upd H p (.lst (List.replicate k.toNat xs).flatten))
theorem op_repL {X : Cx} : OpR X (binaryOp .Mult) rRepL := opR_mono op_rep fun _ _ _ _ ⟨l, e, k, e2, xs, h1, h2, h3, h4, q⟩ => ⟨l, k, xs, e, e2, h1, h2, h3, h4, q⟩
def rCatL (x y : V) (H : Hp) (Q : VK) : Prop := ∃ l, x = .ref l ∧ ∃ b, y = .ref b ∧ ∃ xs, H l = some (.lst xs) ∧ ∃ zs, H b = some (.lst zs) ∧ xs.length + zs.length ≤ sizeLine ∧ ∀ p, H p = none → Q (.ref p) (L2.upd H p (.lst (xs ++ zs)))
theorem op_catL {X : Cx} : OpR X (binaryOp .Add) rCatL := opR_mono op_cat fun _ _ _ _ ⟨l, e, b, e2, xs, h1, zs, h2, h3, q⟩ => ⟨l, b, xs, zs, e, e2, h1, h2, h3, q⟩
theorem mul_le {z : Str} {n : Int} {L N : Nat} (h1 : z.length ≤ L) (h2 : n ≤ (N : Int)) : (Txt.mul z n).length ≤ L * N := len_mul_leN h1 h2
end K01
namespace K01
open PySem PySem.Spec PyProof.Rows L2
local macro_rules | `(tactic| walk_at "rd") => `(tactic| simp only [start1, wipe, isR, isBool, isInt, isStr, isLst, isTup, tAsg, gName, gSub, tVar, tC, tOp, tUn, tTest, tIfS, tRet, tRetN, tDrop, tB, tAnd, tOr, tNot, tAndV, tOrV, tNotV, tIf, tCB, tCons, tNil, tNext, tCall, tBM, tTup, tLst, rI0, rI, rEq, rNe, scal, forR_eq, forR2_eq, forS_eq, forL_eq, lcL_eq, lcR_eq, lcS_eq, rLenX, rLenS, rMulS, rRepL, rCatL, tPart, tNoPart, CwR.tReplC, rAllK, rInSg, rNinSg, sgn_inj, rAddS, rInSt, tChain, tM1, tM0, rSplitN, rJoinN, exists_eq, rIntI, rIntB, rIntS, rStrI, rAbs, rOrd, rMin, rMax, rIxL, rIxX, rSetL, rAppend, rIxS, rSlS, rSlL, tSl, List.map_cons, List.map_nil, List.replicate_succ, List.replicate_zero, List.length_cons, List.length_nil, Nat.reduceSub, Nat.reduceAdd, Nat.zero_add, Nat.sub_self, List.getElem?_cons_zero, List.getElem?_cons_succ, List.set_cons_zero, List.set_cons_succ, List.append_nil, List.nil_append, List.cons_append, Option.some.injEq, not_true_eq_false, reduceCtorEq, exists_eq_left', exists_eq_left, exists_eq', exists_and_left, exists_and_right, V.int.injEq, V.str.injEq, V.bl.injEq, V.ref.injEq, List.cons.injEq, and_true, true_and, and_assoc, decide_eq_true_eq, Bool.not_eq_true', decide_eq_false_iff_not, ite_true, ite_false, if_true, if_false, Bool.not_true, Bool.not_false, Bool.false_eq_true, eq_self_iff_true, reduceIte, ne_eq, Int.reduceEq, not_false_eq_true])
local macro_rules | `(tactic| walk_at "rt") => `(tactic| try walk_at "rd")
local macro_rules | `(tactic| walk_at "st") => `(tactic| (walk_at "rt"; refine r_seq ?_; walk_at "rt"))
local macro_rules | `(tactic| walk_at "hp") => `(tactic| first | assumption | exact upd_same | (rw [upd_ne (by assumption)]; walk_at "hp"))
local macro_rules | `(tactic| walk_at "ex1") => `(tactic| ((with_reducible refine Exists.intro ?w (And.intro ?hx ?_)); (case hx => first | exact sq_of (by walk_at "hp") | exact .inl (sq_of (by walk_at "hp")) | exact rfl | (show _ = some (HO.lst _); walk_at "hp"))))
local macro_rules | `(tactic| walk_at "ex") => `(tactic| repeat (first | walk_at "ex1" | walk_at "rd"))
/-! ### data -/
inductive Dat where
  | non | bl (b : Bool) | int (i : Int) | str (s : Str) | lst (l : List Dat) | tup (l : List Dat)
mutual
def At (H : Hp) (A : Addr → Prop) : Dat → V → Prop
  | .non, v => v = .non
  | .bl b, v => v = .bl b
  | .int i, v => v = .int i
  | .str s, v => v = .str s
  | .lst l, v => ∃ a xs, v = .ref a ∧ A a ∧ H a = some (.lst xs) ∧ xs.length ≤ 1000000 ∧ AtL H A l xs
  | .tup l, v => ∃ a xs, v = .ref a ∧ A a ∧ H a = some (.tup xs) ∧ xs.length ≤ 1000000 ∧ AtL H A l xs
def AtL (H : Hp) (A : Addr → Prop) : List Dat → List V → Prop
  | [], xs => xs = []
  | d :: l, xs => ∃ v r, xs = v :: r ∧ At H A d v ∧ AtL H A l r
end
mutual
def Dat.dep : Dat → Nat
  | .lst l => depL l + 1
  | .tup l => depL l + 1
  | _ => 0
def depL : List Dat → Nat
  | [] => 0
  | d :: l => max d.dep (depL l)
end
mutual
def same : Dat → Dat → Bool
  | .non, .non => true
  | .bl a, .bl b => decide (a = b)
  | .int a, .int b => decide (a = b)
  | .str a, .str b => decide (a = b)
  | .lst l, .lst m => sameL l m
  | .tup l, .tup m => sameL l m
  | _, _ => false
def sameL : List Dat → List Dat → Bool
  | [], [] => true
  | d :: l, e :: m => same d e && sameL l m
  | _, _ => false
end
mutual
theorem same_refl : ∀ d : Dat, same d d = true
  | .non => rfl
  | .bl _ => by simp [same]
  | .int _ => by simp [same]
  | .str _ => by simp [same]
  | .lst l => by rw [same]; exact sameL_refl l
  | .tup l => by rw [same]; exact sameL_refl l
theorem sameL_refl : ∀ l : List Dat, sameL l l = true
  | [] => rfl
  | d :: l => by rw [sameL, same_refl d, sameL_refl l]; rfl
end
mutual
theorem At.mono {H H' : Hp} {A A' : Addr → Prop} (hA : ∀ p, A p → A' p) (k : ∀ p o, A p → H p = some o → H' p = some o) : ∀ (d : Dat) (v : V), At H A d v → At H' A' d v
  | .non, _, h => h
  | .bl _, _, h => h
  | .int _, _, h => h
  | .str _, _, h => h
  | .lst l, _, ⟨a, xs, e, ha, hx, hl, hr⟩ => ⟨a, xs, e, hA a ha, k a _ ha hx, hl, AtL.mono hA k l xs hr⟩
  | .tup l, _, ⟨a, xs, e, ha, hx, hl, hr⟩ => ⟨a, xs, e, hA a ha, k a _ ha hx, hl, AtL.mono hA k l xs hr⟩
theorem AtL.mono {H H' : Hp} {A A' : Addr → Prop} (hA : ∀ p, A p → A' p) (k : ∀ p o, A p → H p = some o → H' p = some o) : ∀ (l : List Dat) (xs : List V), AtL H A l xs → AtL H' A' l xs
  | [], _, h => h
  | d :: l, _, ⟨v, r, e, h1, h2⟩ => ⟨v, r, e, At.mono hA k d v h1, AtL.mono hA k l r h2⟩
end
theorem AtL.length {H : Hp} {A : Addr → Prop} : ∀ (l : List Dat) (xs : List V), AtL H A l xs → xs.length = l.length
  | [], _, h => by rw [show _ = [] from h]; rfl
  | d :: l, _, ⟨v, r, e, h1, h2⟩ => by rw [e, List.length_cons, List.length_cons, AtL.length l r h2]
theorem AtL.get {H : Hp} {A : Addr → Prop} : ∀ (l : List Dat) (xs : List V) (i : Nat) (d : Dat), AtL H A l xs → l[i]? = some d → ∃ v, xs[i]? = some v ∧ At H A d v
  | [], _, _, _, _, h => by simp at h
  | d :: l, _, 0, e, ⟨v, r, ex, h1, h2⟩, h => by
    subst ex
    cases h
    exact ⟨v, rfl, h1⟩
  | d :: l, _, i + 1, e, ⟨v, r, ex, h1, h2⟩, h => by
    subst ex
    exact AtL.get l r i e h2 h
theorem AtL.snoc {H : Hp} {A : Addr → Prop} : ∀ (l : List Dat) (xs : List V) (d : Dat) (v : V), AtL H A l xs → At H A d v → AtL H A (l ++ [d]) (xs ++ [v])
  | [], _, d, v, h, h2 => by rw [show _ = [] from h]; exact ⟨v, [], rfl, h2, rfl⟩
  | e :: l, _, d, v, ⟨w, r, ex, h1, h2⟩, h3 => by rw [ex]; exact ⟨w, r ++ [v], rfl, h1, AtL.snoc l r d v h2 h3⟩
theorem dep_get : ∀ (l : List Dat) (i : Nat) (d : Dat), l[i]? = some d → d.dep ≤ depL l
  | [], _, _, h => by simp at h
  | e :: l, 0, d, h => by cases h; rw [depL]; exact Nat.le_max_left _ _
  | e :: l, i + 1, d, h => by rw [depL]; exact Nat.le_trans (dep_get l i d h) (Nat.le_max_right _ _)
/-! ### isinstance of data -/
def isBool : Dat → Bool | .bl _ => true | _ => false
def isInt : Dat → Bool | .bl _ => true | .int _ => true | _ => false
def isStr : Dat → Bool | .str _ => true | _ => false
def isLst : Dat → Bool | .lst _ => true | _ => false
def isTup : Dat → Bool | .tup _ => true | _ => false
def tyOf : Dat → String | .non => "NoneType" | .bl _ => "bool" | .int _ => "int" | .str _ => "str" | .lst _ => "list" | .tup _ => "tuple"
theorem tyx {K : PySem.W.Frag} {H : Hp} {A : Addr → Prop} : ∀ {d : Dat} {v : V}, At H A d v → TyX K H v (.type (tyOf d))
  | .non, _, h => by rw [show _ = V.non from h]; exact .base .non
  | .bl b, _, h => by rw [show _ = V.bl b from h]; exact .base (.bl b)
  | .int b, _, h => by rw [show _ = V.int b from h]; exact .base (.int b)
  | .str b, _, h => by rw [show _ = V.str b from h]; exact .base (.str b)
  | .lst l, _, ⟨a, xs, e, _, hx, _⟩ => by subst e; exact .base (.lst hx)
  | .tup l, _, ⟨a, xs, e, _, hx, _⟩ => by subst e; exact .base (.tup hx)
def isR (T : String) (p : Dat → Bool) : List V → Hp → VK → Prop := fun xs H Q => ∃ x, xs = [x, .ty T] ∧ ∃ A d, At H A d x ∧ Q (.bl (p d)) H
theorem call_is {X : Cx} (T : String) (p : Dat → Bool) (h : ∀ d, kitB (tyOf d) T = some (p d)) : CallR X (.builtin "isinstance") (isR T p) := callR_mono call_isi fun xs H Q ⟨x, e, A, d, ha, q⟩ =>
  ⟨x, .ty T, _, _, p d, e, .ty T, tyx ha, kit_ty (h d), q⟩
theorem call_is_bool {X : Cx} : CallR X (.builtin "isinstance") (isR "bool" isBool) := call_is _ _ fun d => by cases d <;> (simp only [tyOf, isBool]; decide +kernel)
theorem call_is_int {X : Cx} : CallR X (.builtin "isinstance") (isR "int" isInt) := call_is _ _ fun d => by cases d <;> (simp only [tyOf, isInt]; decide +kernel)
theorem call_is_str {X : Cx} : CallR X (.builtin "isinstance") (isR "str" isStr) := call_is _ _ fun d => by cases d <;> (simp only [tyOf, isStr]; decide +kernel)
theorem call_is_dict {X : Cx} : CallR X (.builtin "isinstance") (isR "dict" fun _ => false) := call_is _ _ fun d => by cases d <;> (simp only [tyOf]; decide +kernel)
theorem call_is_list {X : Cx} : CallR X (.builtin "isinstance") (isR "list" isLst) := call_is _ _ fun d => by cases d <;> (simp only [tyOf, isLst]; decide +kernel)
theorem call_is_tuple {X : Cx} : CallR X (.builtin "isinstance") (isR "tuple" isTup) := call_is _ _ fun d => by cases d <;> (simp only [tyOf, isTup]; decide +kernel)
end K01
namespace K01
open PySem PySem.Spec PyProof.Rows L2 TL
/-! ### texts: cutting and joining at one sign -/
theorem pre1 (s c : Nat) (r : List Nat) : pre [s] (c :: r) = (c == s) := by
  show ((c :: r).take 1 == [s]) = (c == s)
  simp
theorem spl_ne (s : Nat) : ∀ (l acc : List Nat), spl [s] 0 acc l ≠ []
  | [], acc => by rw [spl_nil]; simp
  | c :: r, acc => by
    by_cases h : pre [s] (c :: r) = true
    · rw [spl_hit h]; simp
    · rw [spl_miss (by simpa using h)]; exact spl_ne s r _
theorem join_spl (s : Nat) : ∀ (l acc : List Nat), joinL [s] (spl [s] 0 acc l) = acc ++ l
  | [], acc => by rw [spl_nil, List.append_nil]; rfl
  | c :: r, acc => by
    by_cases h : pre [s] (c :: r) = true
    · have e : c = s := by rw [pre1] at h; simpa using h
      rw [spl_hit h]
      have ih := join_spl s r []
      have hne := spl_ne s r []
      show joinL [s] (acc :: spl [s] 0 [] r) = acc ++ c :: r
      cases e2 : spl [s] 0 [] r with
      | nil => exact absurd e2 hne
      | cons q t =>
        rw [e2] at ih
        show acc ++ ([s] ++ joinL [s] (q :: t)) = acc ++ c :: r
        rw [ih, e]
        rfl
    · rw [spl_miss (by simpa using h), join_spl s r, List.append_assoc]
      rfl
theorem spl_free (s : Nat) : ∀ (l acc : List Nat), s ∉ acc → ∀ p ∈ spl [s] 0 acc l, s ∉ p
  | [], acc, h, p, hp => by rw [spl_nil] at hp; rw [List.mem_singleton.mp hp]; exact h
  | c :: r, acc, h, p, hp => by
    by_cases hc : pre [s] (c :: r) = true
    · rw [spl_hit hc] at hp
      rcases List.mem_cons.mp hp with e | hp
      · rw [e]; exact h
      · exact spl_free s r [] (by simp) p hp
    · rw [spl_miss (by simpa using hc)] at hp
      refine spl_free s r _ (fun hm => ?_) p hp
      rcases List.mem_append.mp hm with hm | hm
      · exact h hm
      · rw [pre1] at hc
        exact hc (by rw [List.mem_singleton.mp hm]; simp)
theorem spl_sub (s : Nat) : ∀ (l acc : List Nat) (t : Nat), t ∉ l → t ∉ acc → ∀ p ∈ spl [s] 0 acc l, t ∉ p
  | [], acc, t, _, h, p, hp => by rw [spl_nil] at hp; rw [List.mem_singleton.mp hp]; exact h
  | c :: r, acc, t, hl, h, p, hp => by
    have hr : t ∉ r := fun z => hl (List.mem_cons_of_mem _ z)
    by_cases hc : pre [s] (c :: r) = true
    · rw [spl_hit hc] at hp
      rcases List.mem_cons.mp hp with e | hp
      · rw [e]; exact h
      · exact spl_sub s r [] t hr (by simp) p hp
    · rw [spl_miss (by simpa using hc)] at hp
      refine spl_sub s r _ t hr (fun hm => ?_) p hp
      rcases List.mem_append.mp hm with hm | hm
      · exact h hm
      · exact hl (by rw [List.mem_singleton.mp hm]; exact List.mem_cons_self)
theorem joinL_len (s : Nat) : ∀ (ps : List (List Nat)), ps ≠ [] → (joinL [s] ps).length + 1 = (ps.map (·.length)).sum + ps.length
  | [], h => absurd rfl h
  | [p], _ => by
    show p.length + 1 = p.length + 0 + 1
    omega
  | p :: q :: r, _ => by
    have ih := joinL_len s (q :: r) (by simp)
    show (p ++ ([s] ++ joinL [s] (q :: r))).length + 1 = _
    rw [List.map_cons, List.sum_cons, List.length_append, List.length_append, List.length_cons (as := q :: r)]
    simp only [List.length_cons, List.length_nil] at ih ⊢
    omega
def nl : Str := Str.ofString "\n"
def sp : Str := Str.ofString " "
theorem tl_nl : tl nl = [10] := by decide +kernel
theorem tl_sp : tl sp = [32] := by decide +kernel
theorem kind_nl : nl.cps.all (· < 256) = true := by decide +kernel
theorem kind_sp : sp.cps.all (· < 256) = true := by decide +kernel
section
variable {y : Str} {s : Nat}
theorem split_tl (ey : tl y = [s]) (hk : y.cps.all (· < 256) = true) (x : Str) : (Txt.split x y).map tl = spl [s] 0 [] (tl x) := by
  rw [split_spl _ y (by rw [ey]; simp) (kind_ok hk), ey]
theorem split_ne (ey : tl y = [s]) (hk : y.cps.all (· < 256) = true) (x : Str) : Txt.split x y ≠ [] := fun e => by
  have h := split_tl ey hk x
  rw [e] at h
  exact spl_ne s _ _ h.symm
theorem join_split (ey : tl y = [s]) (hk : y.cps.all (· < 256) = true) (x : Str) : Txt.join y (Txt.split x y) = x := by
  refine ext_tl ?_
  rw [join_eq, tl_join, ey, split_tl ey hk, join_spl, List.nil_append]
theorem split_free (ey : tl y = [s]) (hk : y.cps.all (· < 256) = true) (x : Str) : ∀ p ∈ Txt.split x y, s ∉ tl p := fun p hp =>
  spl_free s (tl x) [] (by simp) (tl p) (by rw [← split_tl ey hk x]; exact List.mem_map_of_mem hp)
theorem split_sub (ey : tl y = [s]) (hk : y.cps.all (· < 256) = true) (x : Str) {t : Nat} (h : t ∉ tl x) : ∀ p ∈ Txt.split x y, t ∉ tl p := fun p hp =>
  spl_sub s (tl x) [] t h (by simp) (tl p) (by rw [← split_tl ey hk x]; exact List.mem_map_of_mem hp)
theorem join_len (ey : tl y = [s]) (ps : List Str) (h : ps ≠ []) : (Txt.join y ps).length + 1 = (ps.map (·.length)).sum + ps.length := by
  rw [len_tl, join_eq, tl_join, ey, joinL_len s _ (by simpa using h), List.map_map, List.length_map]
  have e : (ps.map (List.length ∘ tl)) = ps.map (·.length) := List.map_congr_left fun p _ => (len_tl p).symm
  rw [e]
theorem split_len (ey : tl y = [s]) (hk : y.cps.all (· < 256) = true) (x : Str) : ((Txt.split x y).map (·.length)).sum + (Txt.split x y).length = x.length + 1 := by
  rw [← join_len ey _ (split_ne ey hk x), join_split ey hk]
end
/-! ### lines of words -/
abbrev Lines := List (List Str)
def splitW (z : Str) : Lines := (Txt.split z nl).map fun l => Txt.split l sp
def joinW (ls : Lines) : Str := Txt.join nl (ls.map fun ws => Txt.join sp ws)
def plainW (ls : Lines) : Prop := ls ≠ [] ∧ ∀ ws ∈ ls, ws ≠ [] ∧ ∀ x ∈ ws, 32 ∉ tl x ∧ 10 ∉ tl x
theorem splitW_plain (z : Str) : plainW (splitW z) := by
  refine ⟨fun e => split_ne tl_nl kind_nl z (List.map_eq_nil_iff.mp e), fun ws hw => ?_⟩
  obtain ⟨l, hl, rfl⟩ := List.mem_map.mp hw
  exact ⟨split_ne tl_sp kind_sp l, fun x hx => ⟨split_free tl_sp kind_sp l x hx, split_sub tl_sp kind_sp l (split_free tl_nl kind_nl z l hl) x hx⟩⟩
theorem joinW_splitW (z : Str) : joinW (splitW z) = z := by
  show Txt.join nl (((Txt.split z nl).map fun l => Txt.split l sp).map fun ws => Txt.join sp ws) = z
  rw [List.map_map]
  have e : ((Txt.split z nl).map ((fun ws => Txt.join sp ws) ∘ fun l => Txt.split l sp)) = Txt.split z nl := by
    refine (List.map_congr_left fun l _ => ?_).trans (List.map_id _)
    exact join_split tl_sp kind_sp l
  rw [e, join_split tl_nl kind_nl]
theorem mem_joinL {s t : Nat} : ∀ {ps : List (List Nat)}, t ∈ joinL [s] ps → t = s ∨ ∃ p ∈ ps, t ∈ p
  | [], h => by cases h
  | [p], h => .inr ⟨p, List.mem_cons_self, h⟩
  | p :: q :: r, h => by
    rcases List.mem_append.mp (show t ∈ p ++ ([s] ++ joinL [s] (q :: r)) from h) with h | h
    · exact .inr ⟨p, List.mem_cons_self, h⟩
    · rcases List.mem_append.mp h with h | h
      · exact .inl (List.mem_singleton.mp h)
      · rcases mem_joinL h with h | ⟨p', hp, h⟩
        · exact .inl h
        · exact .inr ⟨p', List.mem_cons_of_mem _ hp, h⟩
theorem splitW_joinW {ls : Lines} (h : plainW ls) : splitW (joinW ls) = ls := by
  show (Txt.split (Txt.join nl (ls.map fun ws => Txt.join sp ws)) nl).map (fun l => Txt.split l sp) = ls
  rw [split_join tl_nl kind_nl (by simpa using h.1) fun p hp => ?_, List.map_map]
  · refine (List.map_congr_left fun ws hw => ?_).trans (List.map_id _)
    exact split_join tl_sp kind_sp (h.2 ws hw).1 fun p hp => ((h.2 ws hw).2 p hp).1
  · obtain ⟨ws, hw, rfl⟩ := List.mem_map.mp hp
    intro hm
    rw [join_eq, tl_join, tl_sp] at hm
    rcases mem_joinL hm with e | ⟨p, hp, hm⟩
    · cases e
    · obtain ⟨x, hx, rfl⟩ := List.mem_map.mp hp
      exact ((h.2 ws hw).2 x hx).2 hm
/-- how much there is -/
def totW (ls : Lines) : Nat := (ls.map fun ws => (ws.map (·.length)).sum + ws.length + 1).sum
theorem sum_le_of {α : Type} (f : α → Nat) : ∀ (l : List α) (x : α), x ∈ l → f x ≤ (l.map f).sum
  | [], _, h => by cases h
  | a :: l, x, h => by
    rw [List.map_cons, List.sum_cons]
    rcases List.mem_cons.mp h with e | h
    · rw [e]; omega
    · have := sum_le_of f l x h
      omega
theorem length_le_sum {α : Type} (f : α → Nat) (k : ∀ x, 1 ≤ f x) : ∀ l : List α, l.length ≤ (l.map f).sum
  | [] => Nat.le_refl _
  | a :: l => by
    rw [List.map_cons, List.sum_cons, List.length_cons]
    have := length_le_sum f k l
    have := k a
    omega
theorem totW_len (ls : Lines) : ls.length ≤ totW ls := length_le_sum _ (fun _ => by omega) ls
theorem totW_row {ls : Lines} {ws : List Str} (h : ws ∈ ls) : (ws.map (·.length)).sum + ws.length + 1 ≤ totW ls := sum_le_of (fun ws => (ws.map (·.length)).sum + ws.length + 1) ls ws h
theorem joinW_le (ls : Lines) : ((ls.map fun ws => Txt.join sp ws).map (·.length)).sum + ls.length ≤ totW ls := by
  induction ls with
  | nil => exact Nat.le_refl _
  | cons ws r ih =>
    show ((Txt.join sp ws).length + ((r.map fun ws => Txt.join sp ws).map (·.length)).sum) + (r.length + 1) ≤ ((ws.map (·.length)).sum + ws.length + 1) + totW r
    have h : (Txt.join sp ws).length ≤ (ws.map (·.length)).sum + ws.length := by
      cases ws with
      | nil => exact Nat.le_of_eq (by rw [join_eq]; rfl)
      | cons x t =>
        have := join_len tl_sp (x :: t) (by simp)
        omega
    omega
theorem splitW_tot (z : Str) : totW (splitW z) ≤ 3 * z.length + 3 := by
  have h1 := split_len tl_nl kind_nl z
  have h2 : ∀ ls : List Str, totW (ls.map fun l => Txt.split l sp) = (ls.map (·.length)).sum + 2 * ls.length := by
    intro ls
    induction ls with
    | nil => rfl
    | cons l r ih =>
      have h3 := split_len tl_sp kind_sp l
      show ((Txt.split l sp).map (·.length)).sum + (Txt.split l sp).length + 1 + totW (r.map fun l => Txt.split l sp) = (l.length + (r.map (·.length)).sum) + 2 * (r.length + 1)
      omega
  show totW ((Txt.split z nl).map fun l => Txt.split l sp) ≤ _
  rw [h2]
  omega
end K01
namespace K01
open PySem PySem.Spec PyProof.Rows L2
local macro_rules | `(tactic| walk_at "rd") => `(tactic| simp only [start1, wipe, isR, isBool, isInt, isStr, isLst, isTup, tAsg, gName, gSub, tVar, tC, tOp, tUn, tTest, tIfS, tRet, tRetN, tDrop, tB, tAnd, tOr, tNot, tAndV, tOrV, tNotV, tIf, tCB, tCons, tNil, tNext, tCall, tBM, tTup, tLst, rI0, rI, rEq, rNe, scal, forR_eq, forR2_eq, forS_eq, forL_eq, lcL_eq, lcR_eq, lcS_eq, rLenX, rLenS, rMulS, rRepL, rCatL, tPart, tNoPart, CwR.tReplC, rAllK, rInSg, rNinSg, sgn_inj, rAddS, rInSt, tChain, tM1, tM0, rSplitN, rJoinN, exists_eq, rIntI, rIntB, rIntS, rStrI, rAbs, rOrd, rMin, rMax, rIxL, rIxX, rSetL, rAppend, rIxS, rSlS, rSlL, tSl, List.map_cons, List.map_nil, List.replicate_succ, List.replicate_zero, List.length_cons, List.length_nil, Nat.reduceSub, Nat.reduceAdd, Nat.zero_add, Nat.sub_self, List.getElem?_cons_zero, List.getElem?_cons_succ, List.set_cons_zero, List.set_cons_succ, List.append_nil, List.nil_append, List.cons_append, Option.some.injEq, not_true_eq_false, reduceCtorEq, exists_eq_left', exists_eq_left, exists_eq', exists_and_left, exists_and_right, V.int.injEq, V.str.injEq, V.bl.injEq, V.ref.injEq, List.cons.injEq, and_true, true_and, and_assoc, decide_eq_true_eq, Bool.not_eq_true', decide_eq_false_iff_not, ite_true, ite_false, if_true, if_false, Bool.not_true, Bool.not_false, Bool.false_eq_true, eq_self_iff_true, reduceIte, ne_eq, Int.reduceEq, not_false_eq_true])
local macro_rules | `(tactic| walk_at "rt") => `(tactic| try walk_at "rd")
local macro_rules | `(tactic| walk_at "st") => `(tactic| (walk_at "rt"; refine r_seq ?_; walk_at "rt"))
local macro_rules | `(tactic| walk_at "hp") => `(tactic| first | assumption | exact upd_same | (rw [upd_ne (by assumption)]; walk_at "hp"))
local macro_rules | `(tactic| walk_at "ex1") => `(tactic| ((with_reducible refine Exists.intro ?w (And.intro ?hx ?_)); (case hx => first | exact sq_of (by walk_at "hp") | exact .inl (sq_of (by walk_at "hp")) | exact rfl | (show _ = some (HO.lst _); walk_at "hp"))))
local macro_rules | `(tactic| walk_at "ex") => `(tactic| repeat (first | walk_at "ex1" | walk_at "rd"))
abbrev s_mixed : Stmt := topS 17
theorem sc_mixed : FnScope ["number", "turn", "many", "one", "two", "three", "value"] ["number", "turn", "many"] (defScope s_mixed) := ⟨rfl, rfl, rfl, by decide +kernel, rfl, by decide +kernel, by decide +kernel⟩
abbrev s_take : Stmt := topS 18
theorem sc_take : FnScope ["store", "many", "value", "number", "cell"] ["store", "many"] (defScope s_take) := ⟨rfl, rfl, rfl, by decide +kernel, rfl, by decide +kernel, by decide +kernel⟩
abbrev s_pick : Stmt := topS 19
theorem sc_pick : FnScope ["store", "row"] ["store", "row"] (defScope s_pick) := ⟨rfl, rfl, rfl, by decide +kernel, rfl, by decide +kernel, by decide +kernel⟩
abbrev s_chance : Stmt := topS 20
theorem sc_chance : FnScope ["store", "many"] ["store", "many"] (defScope s_chance) := ⟨rfl, rfl, rfl, by decide +kernel, rfl, by decide +kernel, by decide +kernel⟩
abbrev s_number : Stmt := topS 21
theorem sc_number : FnScope ["store", "low", "high", "kind"] ["store", "low", "high"] (defScope s_number) := ⟨rfl, rfl, rfl, by decide +kernel, rfl, by decide +kernel, by decide +kernel⟩

/-! ### the store that draws -/
structure StoreAt (H : Hp) (a c : Addr) : Prop where
  ex : ∃ (cells : List Int) (pos val turn seed : Int), H a = some (.lst [.ref c, .int pos, .int val, .int turn, .int seed]) ∧ H c = some (.lst (cells.map V.int)) ∧ 0 ≤ pos ∧ 0 ≤ val
  ne : c ≠ a
/-- what a draw leaves -/
def Drawn (H : Hp) (a c : Addr) (R : V → Prop) (Q : VK) : Prop := ∀ v H', StoreAt H' a c → But a H H' → R v → Q v H'
def spMixed : Sp := fun vs H Q _ => ∃ (n t m : Int), vs = [.int n, .int t, .int m] ∧ 2 ≤ m ∧ ∀ r : Int, 0 ≤ r → r < m → Q (.int r) H
/-- a number below many -/
def Below (m : Int) (v : V) : Prop := ∃ r : Int, v = .int r ∧ 0 ≤ r ∧ (r < m ∨ r = 0)
def spTake : Sp := fun vs H Q _ => ∃ (a c : Addr) (m : Int), vs = [.ref a, .int m] ∧ StoreAt H a c ∧ m ≤ 2 ^ 70 ∧ Drawn H a c (Below m) Q
theorem fm {x M y : Int} (hM : 0 < M) (e : x.fmod M = y) : 0 ≤ y ∧ y < M := by
  rw [← e, Int.fmod_eq_emod_of_nonneg _ (by omega)]
  exact ⟨Int.emod_nonneg _ (by omega), Int.emod_lt_of_pos _ hM⟩
theorem small_div {m : Int} (h2 : 2 ≤ m) (h : m ≤ 2 ^ 70) (x : Int) : CDivW x m := wide_div (b := 71) (by omega) (by omega) (by decide) (by decide)
section
variable {P : Program} {w : World} {K : PySem.W.Frag} {mg : Str → Option Value} {base : Heap}
theorem ok_mixed {f : Addr} {fd : FuncData} (B : Bi mg) (D : Dn K mg "_law_mixed" s_mixed ["number", "turn", "many"] f fd) : FnOk P w K mg base CX0 1 f fd ["number", "turn", "many"] spMixed := by
  refine D.F.ok sc_mixed (fun vs H Q E h => ?_) (fun cdv A outer s H vs Q E hr h => ?_)
  · obtain ⟨n, t, m, rfl, _⟩ := h
    rfl
  · obtain ⟨n, t, m, rfl, hm, q⟩ := h
    refine ⟨_, (pss_cons (ps_set (i := 3) sc_mixed.nd rfl (.inl rfl) (pe_op op_modN (pe_callTy call_intI (by rfl) B.int_ (by decide +kernel) (pa_cons (pe_op op_add (pe_op op_add (pe_op op_mul (pv 0) pe_int) (pe_op op_mul (pv 1) pe_int)) pe_int) pa_nil)) pe_int))
      (pss_cons (ps_set (i := 4) sc_mixed.nd rfl (.inl rfl) (pe_op op_modN (pe_callTy call_intI (by rfl) B.int_ (by decide +kernel) (pa_cons (pe_op op_add (pe_op op_add (pe_op op_mul (pv 3) (pv 3)) (pv 1)) pe_int) pa_nil)) pe_int))
      (pss_cons (ps_set (i := 5) sc_mixed.nd rfl (.inl rfl) (pe_op op_modN (pe_callTy call_intI (by rfl) B.int_ (by decide +kernel) (pa_cons (pe_op op_add (pe_op op_mul (pv 4) (pv 4)) (pv 3)) pa_nil)) pe_int))
      (pss_cons (ps_set (i := 6) sc_mixed.nd rfl (.inl rfl) (pe_op op_fdivW (pv 5) pe_int))
      (C8.pss_cut (ps_if (pt_cmpR op_gt (pv 2) pe_int (nomark _)) (pss_one (ps_set (i := 6) sc_mixed.nd rfl (.inl rfl) (pe_op op_add (pe_op op_mul (pv 6) pe_int) (pe_op op_modN (pe_callTy call_intI (by rfl) B.int_ (by decide +kernel) (pa_cons (pe_op op_add (pe_op op_mul (pv 5) (pv 5)) (pv 4)) pa_nil)) pe_int)))) pss_nil)
      (pss_one (ps_ret (pe_op op_modN (pe_callTy call_intI (by rfl) B.int_ (by decide +kernel) (pa_cons (pv 6) pa_nil)) (pv 2))))))))), ?_⟩
    walk_at "st"
    refine ⟨.inr ⟨by decide, by decide⟩, .inr ⟨by decide, by decide⟩, ?_⟩
    generalize e1 : Int.fmod _ _ = one
    obtain ⟨a1, b1⟩ := fm (by decide) e1
    walk_at "st"
    refine ⟨.inl ⟨by omega, by omega⟩, ?_⟩
    generalize e2 : Int.fmod _ _ = two
    obtain ⟨a2, b2⟩ := fm (by decide) e2
    walk_at "st"
    refine ⟨.inl ⟨by omega, by omega⟩, ?_⟩
    generalize e3 : Int.fmod _ _ = three
    obtain ⟨a3, b3⟩ := fm (by decide) e3
    walk_at "st"
    refine ⟨⟨by decide, by decide⟩, ?_⟩
    refine r_cut (fun σ' H' => (∃ v : Int, σ' = [some (.int n), some (.int t), some (.int m), some (.int one), some (.int two), some (.int three), some (.int v)]) ∧ H' = H) (fun N k => ?_) ?_
    · walk_at "rt"
      exact ite2 (fun _ => ⟨.inr ⟨by decide, by decide⟩, .inl ⟨by omega, by omega⟩, k _ _ ⟨⟨_, rfl⟩, rfl⟩⟩) (fun _ => k _ _ ⟨⟨_, rfl⟩, rfl⟩)
    · rintro σ' H' ⟨⟨v, rfl⟩, rfl⟩
      walk_at "rt"
      generalize e4 : Int.fmod _ _ = r
      obtain ⟨a4, b4⟩ := fm (by omega) e4
      exact ⟨by omega, q r a4 b4⟩
theorem ok_take {f fM : Addr} {fd fdM : FuncData} (B : Bi mg) (D : Dn K mg "_law_take" s_take ["store", "many"] f fd) (D_mixed : Dn K mg "_law_mixed" s_mixed ["number", "turn", "many"] fM fdM) : FnOk P w K mg base CX0 2 f fd ["store", "many"] spTake := by
  have G_mixed : FnOk P w K mg base CX0 1 fM fdM ["number", "turn", "many"] spMixed := ok_mixed B D_mixed
  refine D.F.ok sc_take (fun vs H Q E h => ?_) (fun cdv A outer s H vs Q E hr h => ?_)
  · obtain ⟨a, c, m, rfl, _⟩ := h
    rfl
  · obtain ⟨a, c, m, rfl, S, hm, q⟩ := h
    obtain ⟨cells, pos, val, turn, seed, ha, hc, h0, hv⟩ := S.ex
    refine ⟨_, (pss_cons (ps_if (pt_cmpR op_lt (pv 1) pe_int (nomark _)) (pss_one (ps_ret pe_int)) pss_nil)
      (pss_cons (ps_set (i := 2) sc_take.nd rfl (.inl rfl) (pe_ix (ix_listK (K := K)) (pv 0) pe_int (fun _ _ => rfl)))
      (pss_cons (ps_set (i := 3) sc_take.nd rfl (.inl rfl) (pe_ix (ix_listK (K := K)) (pv 0) pe_int (fun _ _ => rfl)))
      (C8.pss_cut (ps_if (pt_cmpR op_eq (pv 2) pe_int (nomark _)) (pss_cons (ps_asg (pe_op op_add (pe_ix (ix_listK (K := K)) (pv 0) pe_int (fun _ _ => rfl)) pe_int) (pg_sub (pv 0) pe_int set_list (fun _ => rfl)))
      (pss_one (ps_if (pt_cmpR op_lt (pe_ix (ix_listK (K := K)) (pv 0) pe_int (fun _ _ => rfl)) (pe_callB (call_lenXK (K := K)) (by rfl) B.len PySem.boot_len (pa_cons (pe_ix (ix_listK (K := K)) (pv 0) pe_int (fun _ _ => rfl)) pa_nil)) (nomark _)) (pss_cons (ps_set (i := 4) sc_take.nd rfl (.inl rfl) (pe_ix (ix_listK (K := K)) (pe_ix (ix_listK (K := K)) (pv 0) pe_int (fun _ _ => rfl)) (pe_ix (ix_listK (K := K)) (pv 0) pe_int (fun _ _ => rfl)) (fun _ _ => rfl)))
      (pss_cons (ps_asg (pe_op op_add (pe_ix (ix_listK (K := K)) (pv 0) pe_int (fun _ _ => rfl)) pe_int) (pg_sub (pv 0) pe_int set_list (fun _ => rfl)))
      (pss_cons (ps_set (i := 3) sc_take.nd rfl (.inl rfl) (pe_op op_mul (pe_callB call_absI (by rfl) B.abs (by decide +kernel) (pa_cons (pv 4) pa_nil)) pe_int))
      (C8.pss_cut (ps_if (pt_cmpR op_lt (pv 4) pe_int (nomark _)) (pss_one (ps_set (i := 3) sc_take.nd rfl (.inl rfl) (pe_op op_add (pv 3) pe_int))) pss_nil)
      (pss_one (ps_if (pt_cmpR op_ge (pe_callB call_absI (by rfl) B.abs (by decide +kernel) (pa_cons (pv 4) pa_nil)) (pe_op op_pow pe_int pe_int) (nomark _)) (pss_one (ps_set (i := 2) sc_take.nd rfl (.inl rfl) (pe_callB call_absI (by rfl) B.abs (by decide +kernel) (pa_cons (pv 4) pa_nil)))) pss_nil)))))) pss_nil))) pss_nil)
      (pss_cons (ps_if (pt_cmpR op_eq (pv 2) pe_int (nomark _)) (pss_one (ps_ret (pe_call G_mixed (hr.mono (by omega)) (by rfl) D_mixed.g D_mixed.F.kp D_mixed.b .nil pass0 (pa_cons (pv 3) (pa_cons (pe_ix (ix_listK (K := K)) (pv 0) pe_int (fun _ _ => rfl)) (pa_cons (pv 1) pa_nil)))))) pss_nil)
      (pss_cons (ps_asg (pe_op op_fdivW (pe_callTy call_intI (by rfl) B.int_ (by decide +kernel) (pa_cons (pv 2) pa_nil)) (pv 1)) (pg_sub (pv 0) pe_int set_list (fun _ => rfl)))
      (pss_one (ps_ret (pe_op op_modN (pe_callTy call_intI (by rfl) B.int_ (by decide +kernel) (pa_cons (pv 2) pa_nil)) (pv 1)))))))))), ?_⟩
    walk_at "st"
    refine ite2 (fun hlt => ?_) (fun hge => ?_)
    · exact q _ _ S (But.refl _ _) ⟨0, rfl, by omega, .inr rfl⟩
    walk_at "st"
    refine ⟨_, sq_of ha, _, rfl, ?_⟩
    walk_at "st"
    refine ⟨_, sq_of ha, _, rfl, ?_⟩
    refine r_cut (fun σ' H' => ∃ (v n pos' turn' : Int) (x : Option V), σ' = [some (.ref a), some (.int m), some (.int v), some (.int n), x] ∧ H' a = some (.lst [.ref c, .int pos', .int val, .int turn', .int seed]) ∧ H' c = some (.lst (cells.map V.int)) ∧ 0 ≤ pos' ∧ 0 ≤ v ∧ But a H H') (fun N k => ?_) ?_
    · walk_at "rt"
      refine ite2 (fun hz => ?_) (fun hz => k _ _ ⟨_, _, _, _, _, rfl, ha, hc, h0, hv, But.refl _ _⟩)
      have nca := S.ne
      walk_at "st"
      walk_at "ex"
      generalize hH1 : upd H a _ = H1
      have ha1 : H1 a = some (.lst [.ref c, .int pos, .int val, .int (turn + 1), .int seed]) := by rw [← hH1]; exact upd_same
      have hc1 : H1 c = some (.lst (cells.map V.int)) := by rw [← hH1, upd_ne nca]; exact hc
      have b1 : But a H H1 := by rw [← hH1]; exact But.updA
      refine ite2 (fun hp => ?_) (fun hp => k _ _ ⟨_, _, _, _, _, rfl, ha1, hc1, h0, hv, b1⟩)
      have hp' : pos.toNat < cells.length := by
        rw [List.length_map] at hp
        omega
      obtain ⟨cell, hat⟩ := atI_map h0 hp'
      walk_at "st"
      walk_at "ex"

      refine ⟨_, hat, ?_⟩
      walk_at "st"
      walk_at "ex"
      generalize hH2 : upd H1 a _ = H2
      have ha2 : H2 a = some (.lst [.ref c, .int (pos + 1), .int val, .int (turn + 1), .int seed]) := by rw [← hH2]; exact upd_same
      have hc2 : H2 c = some (.lst (cells.map V.int)) := by rw [← hH2, upd_ne nca]; exact hc1
      have b2 : But a H H2 := b1.trans (by rw [← hH2]; exact But.updA)
      walk_at "st"
      refine ⟨.inr ⟨by decide, by decide⟩, ?_⟩
      refine r_cut (fun σ' H' => ∃ (n : Int), σ' = [some (.ref a), some (.int m), some (.int val), some (.int n), some (.int cell)] ∧ H' = H2) (fun N' k' => ?_) ?_
      · walk_at "rt"
        exact ite2 (fun _ => k' _ _ ⟨_, rfl, rfl⟩) (fun _ => k' _ _ ⟨_, rfl, rfl⟩)
      · rintro σ' H' ⟨n, rfl, rfl⟩
        walk_at "rt"
        refine ⟨⟨by decide, by decide, by decide⟩, ite2 (fun _ => k _ _ ⟨_, _, _, _, _, rfl, ha2, hc2, by omega, by split <;> omega, b2⟩) (fun _ => k _ _ ⟨_, _, _, _, _, rfl, ha2, hc2, by omega, hv, b2⟩)⟩
    · rintro σ' H' ⟨v, n, pos', turn', x, rfl, ha', hc', h0', hv', b'⟩
      have nca := S.ne
      walk_at "st"
      refine ite2 (fun hz => ?_) (fun hz => ?_)
      · walk_at "ex"
        refine ⟨_, _, _, rfl, by omega, fun r h1 h2 => q _ _ ⟨⟨cells, pos', val, turn', seed, ha', hc', h0', hv⟩, nca⟩ b' ⟨r, rfl, h1, .inl h2⟩⟩
      · walk_at "st"
        refine ⟨small_div (by omega) hm _, ?_⟩
        walk_at "ex"
        generalize hH1 : upd H' a _ = H1
        have ha1 : H1 a = some (.lst [.ref c, .int pos', .int (v / m), .int turn', .int seed]) := by rw [← hH1]; exact upd_same
        have hc1 : H1 c = some (.lst (cells.map V.int)) := by rw [← hH1, upd_ne nca]; exact hc'
        have b1 : But a H H1 := b'.trans (by rw [← hH1]; exact But.updA)

        refine ⟨by omega, ?_⟩
        generalize e4 : Int.fmod _ _ = r
        obtain ⟨a4, b4⟩ := fm (by omega) e4
        exact q _ _ ⟨⟨cells, pos', v / m, turn', seed, ha1, hc1, h0', Int.ediv_nonneg hv' (by omega)⟩, nca⟩ b1 ⟨r, rfl, a4, .inl b4⟩
end
end K01
namespace K01
open PySem PySem.Spec PyProof.Rows L2
local macro_rules | `(tactic| walk_at "rd") => `(tactic| simp only [start1, wipe, isR, isBool, isInt, isStr, isLst, isTup, tAsg, gName, gSub, tVar, tC, tOp, tUn, tTest, tIfS, tRet, tRetN, tDrop, tB, tAnd, tOr, tNot, tAndV, tOrV, tNotV, tIf, tCB, tCons, tNil, tNext, tCall, tBM, tTup, tLst, rI0, rI, rEq, rNe, scal, forR_eq, forR2_eq, forS_eq, forL_eq, lcL_eq, lcR_eq, lcS_eq, rLenX, rLenS, rMulS, rRepL, rCatL, tPart, tNoPart, CwR.tReplC, rAllK, rInSg, rNinSg, sgn_inj, rAddS, rInSt, tChain, tM1, tM0, rSplitN, rJoinN, exists_eq, rIntI, rIntB, rIntS, rStrI, rAbs, rOrd, rMin, rMax, rIxL, rIxX, rSetL, rAppend, rIxS, rSlS, rSlL, tSl, List.map_cons, List.map_nil, List.replicate_succ, List.replicate_zero, List.length_cons, List.length_nil, Nat.reduceSub, Nat.reduceAdd, Nat.zero_add, Nat.sub_self, List.getElem?_cons_zero, List.getElem?_cons_succ, List.set_cons_zero, List.set_cons_succ, List.append_nil, List.nil_append, List.cons_append, Option.some.injEq, not_true_eq_false, reduceCtorEq, exists_eq_left', exists_eq_left, exists_eq', exists_and_left, exists_and_right, V.int.injEq, V.str.injEq, V.bl.injEq, V.ref.injEq, List.cons.injEq, and_true, true_and, and_assoc, decide_eq_true_eq, Bool.not_eq_true', decide_eq_false_iff_not, ite_true, ite_false, if_true, if_false, Bool.not_true, Bool.not_false, Bool.false_eq_true, eq_self_iff_true, reduceIte, ne_eq, Int.reduceEq, not_false_eq_true])
local macro_rules | `(tactic| walk_at "rt") => `(tactic| try walk_at "rd")
local macro_rules | `(tactic| walk_at "st") => `(tactic| (walk_at "rt"; refine r_seq ?_; walk_at "rt"))
local macro_rules | `(tactic| walk_at "hp") => `(tactic| first | assumption | exact upd_same | (rw [upd_ne (by assumption)]; walk_at "hp"))
local macro_rules | `(tactic| walk_at "ex1") => `(tactic| ((with_reducible refine Exists.intro ?w (And.intro ?hx ?_)); (case hx => first | exact sq_of (by walk_at "hp") | exact .inl (sq_of (by walk_at "hp")) | exact rfl | (show _ = some (HO.lst _); walk_at "hp"))))
local macro_rules | `(tactic| walk_at "ex") => `(tactic| repeat (first | walk_at "ex1" | walk_at "rd"))
abbrev s_store : Stmt := topS 16
theorem sc_store : FnScope ["script", "cell", "cells", "seed"] ["script"] (defScope s_store) := ⟨rfl, rfl, rfl, by decide +kernel, rfl, by decide +kernel, by decide +kernel⟩

def spStore (K : PySem.W.Frag) : Sp := fun vs H Q _ => ∃ (s : Addr) (ns : List Int), vs = [.ref s] ∧ SqL K H s (ns.map V.int) ∧ ns.length ≤ 63 ∧ ∀ (a c : Addr) (H' : Hp), Same H H' → H a = none → StoreAt H' a c → Q (.ref a) H'
def spPick : Sp := fun vs H Q _ => ∃ (a c : Addr) (z : Str), vs = [.ref a, .str z] ∧ StoreAt H a c ∧ z.cps.toList ≠ [] ∧ z.length ≤ 1000 ∧ Drawn H a c (fun v => ∃ k, k ∈ z.cps.toList ∧ v = .str ⟨#[k]⟩) Q
def spChance : Sp := fun vs H Q _ => ∃ (a c : Addr) (m : Int), vs = [.ref a, .int m] ∧ StoreAt H a c ∧ m ≤ 2 ^ 70 ∧ Drawn H a c (fun v => ∃ b, v = .bl b) Q
/-- a number from low to high -/
def Within (lo hi : Int) (v : V) : Prop := ∃ r : Int, v = .int r ∧ lo ≤ r ∧ r ≤ hi
def spRange : Sp := fun vs H Q _ => ∃ (a c : Addr) (lo hi : Int), vs = [.ref a, .int lo, .int hi] ∧ StoreAt H a c ∧ lo ≤ hi ∧ hi - lo < 2 ^ 70 ∧ Drawn H a c (Within lo hi) Q
theorem Drawn.mono {H H1 : Hp} {a c : Addr} {R R' : V → Prop} {Q : VK} (b : But a H H1) (k : ∀ v, R' v → R v) (q : Drawn H a c R Q) : Drawn H1 a c R' Q := fun v H' s b' r => q v H' s (b.trans b') (k v r)
theorem drawn_at {H H1 : Hp} {a c : Addr} {R : V → Prop} {Q : VK} {v : V} (q : Drawn H a c R Q) (S : StoreAt H1 a c) (b : But a H H1) (r : R v) : Q v H1 := q v H1 S b r
section
variable {P : Program} {w : World} {K : PySem.W.Frag} {mg : Str → Option Value} {base : Heap}
theorem ok_store {f : Addr} {fd : FuncData} (B : Bi mg) (D : Dn K mg "_law_store" s_store ["script"] f fd) : FnOk P w K mg base CX0 1 f fd ["script"] (spStore K) := by
  refine D.F.ok sc_store (fun vs H Q E h => ?_) (fun cdv A outer s H vs Q E hr h => ?_)
  · obtain ⟨a, ns, rfl, _⟩ := h
    rfl
  · obtain ⟨a, ns, rfl, S, hl, q⟩ := h
    refine ⟨_, (pss_cons (ps_setLc (i := 2) (own := [("cell", 1)]) (g := gName 1) (tt := tYes) (by rfl) sc_store.nd rfl rfl (sw_true rfl rfl rfl (by decide +kernel)) (pi_listK (K := K) (pv 0)) (blkOk_by (own := [("cell", 1)]) (N := ["script", "cell", "cells", "seed"]) (sc := defScope s_store) (by decide +kernel)) (fun _ _ _ _ _ => pg_name (i := 1) sc_store.nd rfl (Or.inl rfl)) (fun _ _ _ _ _ => pts_nil) (fun _ _ _ _ _ => (pe_callTy call_intI (by rfl) B.int_ (by decide +kernel) (pa_cons (pv 1) pa_nil))))
      (pss_cons (ps_set (i := 3) sc_store.nd rfl (.inl rfl) (pe_op op_add pe_int (pe_callB (call_lenXK (K := K)) (by rfl) B.len PySem.boot_len (pa_cons (pv 2) pa_nil))))
      (pss_cons (ps_for PassesOwn.never rfl (pi_listK (K := K) (pv 2)) (pg_name (i := 1) sc_store.nd rfl (.inl rfl)) (pss_one (ps_set (i := 3) sc_store.nd rfl (.inl rfl) (pe_op op_modN (pe_callTy call_intI (by rfl) B.int_ (by decide +kernel) (pa_cons (pe_op op_add (pe_op op_mul (pv 3) pe_int) (pe_op op_modN (pe_callTy call_intI (by rfl) B.int_ (by decide +kernel) (pa_cons (pv 1) pa_nil)) pe_int)) pa_nil)) pe_int))))
      (pss_one (ps_ret (pe_lst (pa_cons (pv 2) (pa_cons pe_int (pa_cons pe_int (pa_cons pe_int (pa_cons (pv 3) pa_nil))))))))))), ?_⟩
    refine r_seq ?_
    refine ⟨_, rfl, a, rfl, ⟨_, S⟩, fun c nc => ?_⟩
    refine r_lcL (K := K) (a := a) (ns.map V.int) (fun i H' => But c H H' ∧ H' c = some (.lst ((ns.take i).map V.int))) (fun _ => rfl) ⟨But.updA, upd_same⟩ (fun i H' _ h => (h.1.same nc).seq S) ?_ ?_
    · rintro i x H' hx ⟨sm, hc⟩ N k
      obtain ⟨z, hz, rfl⟩ := map_get hx
      have hi := lt_of_get hz
      have hw : wipe [some (V.ref a), none, none, none] [1] = [some (V.ref a), none, none, none] := rfl
      show tCB _ _ [some (V.ref a), some (V.int z), none, none] _ _
      walk_at "rt"
      refine k _ _ _ hc ?_ ⟨sm.trans But.updA, ?_⟩
      · rw [List.length_map, List.length_take]; exact small1000 (by omega)
      · rw [upd_same, take_map hz]
    · rintro H1 ⟨sm, hc⟩
      rw [List.length_map, List.take_length] at hc
      walk_at "rt"
      walk_at "st"
      walk_at "ex"
      refine r_seq ?_
      refine ⟨_, rfl, c, rfl, ⟨_, sq_of hc⟩, ?_⟩
      refine r_list (K := K) (a := c) (ns.map V.int) (fun i σ H' => (∃ (z : Int) (x : Option V), σ = [some (.ref a), x, some (.ref c), some (.int z)]) ∧ H' = H1) ⟨⟨_, _, rfl⟩, rfl⟩ (fun i σ H' _ h => by rw [h.2]; exact sq_of hc) ?_ ?_
      · rintro i x σ H' hx ⟨⟨z, y, rfl⟩, rfl⟩ N k
        obtain ⟨t, ht, rfl⟩ := map_get hx
        walk_at "rt"
        exact ⟨.inr ⟨by decide, by decide⟩, k _ _ ⟨⟨_, _, rfl⟩, rfl⟩⟩
      · rintro σ H' ⟨⟨z, y, rfl⟩, rfl⟩
        walk_at "rt"
        refine ⟨by decide, fun p np => ?_⟩
        have np0 : H p = none := (sm.same nc).free np
        have ncp : c ≠ p := ne_of_none hc np
        exact q p c _ ((sm.same nc).trans (Same.new np)) np0 ⟨⟨ns, 0, 0, 0, z, upd_same, by rw [upd_ne ncp]; exact hc, by decide, by decide⟩, ncp⟩
end
end K01
namespace K01
open PySem PySem.Spec PyProof.Rows L2
local macro_rules | `(tactic| walk_at "rd") => `(tactic| simp only [start1, wipe, isR, isBool, isInt, isStr, isLst, isTup, tAsg, gName, gSub, tVar, tC, tOp, tUn, tTest, tIfS, tRet, tRetN, tDrop, tB, tAnd, tOr, tNot, tAndV, tOrV, tNotV, tIf, tCB, tCons, tNil, tNext, tCall, tBM, tTup, tLst, rI0, rI, rEq, rNe, scal, forR_eq, forR2_eq, forS_eq, forL_eq, lcL_eq, lcR_eq, lcS_eq, rLenX, rLenS, rMulS, rRepL, rCatL, tPart, tNoPart, CwR.tReplC, rAllK, rInSg, rNinSg, sgn_inj, rAddS, rInSt, tChain, tM1, tM0, rSplitN, rJoinN, exists_eq, rIntI, rIntB, rIntS, rStrI, rAbs, rOrd, rMin, rMax, rIxL, rIxX, rSetL, rAppend, rIxS, rSlS, rSlL, tSl, List.map_cons, List.map_nil, List.replicate_succ, List.replicate_zero, List.length_cons, List.length_nil, Nat.reduceSub, Nat.reduceAdd, Nat.zero_add, Nat.sub_self, List.getElem?_cons_zero, List.getElem?_cons_succ, List.set_cons_zero, List.set_cons_succ, List.append_nil, List.nil_append, List.cons_append, Option.some.injEq, not_true_eq_false, reduceCtorEq, exists_eq_left', exists_eq_left, exists_eq', exists_and_left, exists_and_right, V.int.injEq, V.str.injEq, V.bl.injEq, V.ref.injEq, List.cons.injEq, and_true, true_and, and_assoc, decide_eq_true_eq, Bool.not_eq_true', decide_eq_false_iff_not, ite_true, ite_false, if_true, if_false, Bool.not_true, Bool.not_false, Bool.false_eq_true, eq_self_iff_true, reduceIte, ne_eq, Int.reduceEq, not_false_eq_true])
local macro_rules | `(tactic| walk_at "rt") => `(tactic| try walk_at "rd")
local macro_rules | `(tactic| walk_at "st") => `(tactic| (walk_at "rt"; refine r_seq ?_; walk_at "rt"))
local macro_rules | `(tactic| walk_at "hp") => `(tactic| first | assumption | exact upd_same | (rw [upd_ne (by assumption)]; walk_at "hp"))
local macro_rules | `(tactic| walk_at "ex1") => `(tactic| ((with_reducible refine Exists.intro ?w (And.intro ?hx ?_)); (case hx => first | exact sq_of (by walk_at "hp") | exact .inl (sq_of (by walk_at "hp")) | exact rfl | (show _ = some (HO.lst _); walk_at "hp"))))
local macro_rules | `(tactic| walk_at "ex") => `(tactic| repeat (first | walk_at "ex1" | walk_at "rd"))
section
variable {P : Program} {w : World} {K : PySem.W.Frag} {mg : Str → Option Value} {base : Heap}
theorem line_of {n : Nat} (h : n ≤ 16777216) : n ≤ sizeLine := by rw [PySem.sizeLine_eq]; exact h
theorem ok_pick {f f_take : Addr} {fd fd_take : FuncData} (B : Bi mg) (D : Dn K mg "_law_pick" s_pick ["store", "row"] f fd) (D_take : Dn K mg "_law_take" s_take ["store", "many"] f_take fd_take)
    (G_take : FnOk P w K mg base CX0 2 f_take fd_take ["store", "many"] spTake) : FnOk P w K mg base CX0 3 f fd ["store", "row"] spPick := by
  refine D.F.ok sc_pick (fun vs H Q E h => ?_) (fun cdv A outer s H vs Q E hr h => ?_)
  · obtain ⟨a, c, z, rfl, _⟩ := h
    rfl
  · obtain ⟨a, c, z, rfl, S, hne, hl, q⟩ := h
    refine ⟨_, (pss_cons (ps_if (pt_cmpR op_eq (pe_callB call_lenS (by rfl) B.len PySem.boot_len (pa_cons (pv 1) pa_nil)) pe_int (nomark _)) (pss_one (ps_ret pe_non)) pss_nil)
      (pss_one (ps_ret (pe_ix ix_str (pv 1) (pe_call G_take (hr.mono (by omega)) (by rfl) D_take.g D_take.F.kp D_take.b .nil pass0 (pa_cons (pv 0) (pa_cons (pe_callB call_lenS (by rfl) B.len PySem.boot_len (pa_cons (pv 1) pa_nil)) pa_nil))) (fun _ _ => rfl))))), ?_⟩
    have hz : z.cps.toList.length = z.length := rfl
    have hp : 0 < z.length := by
      rw [← hz]
      exact List.length_pos_iff.mpr hne
    walk_at "st"
    refine ⟨line_of (by omega), ite2 (fun e => absurd e (by omega)) (fun _ => ?_)⟩
    walk_at "rt"
    refine ⟨line_of (by omega), a, c, _, rfl, S, by omega, fun v H' S' b' ⟨r, e, r0, r1⟩ => ?_⟩
    subst e
    walk_at "rt"
    obtain ⟨k, hk, hk2⟩ := atI_get (xs := z.cps.toList) (i := r) r0 (by omega)
    exact ⟨line_of (by omega), k, hk, q _ _ S' b' ⟨k, List.mem_of_getElem? hk2, rfl⟩⟩
theorem ok_chance {f f_take : Addr} {fd fd_take : FuncData} (B : Bi mg) (D : Dn K mg "_law_chance" s_chance ["store", "many"] f fd) (D_take : Dn K mg "_law_take" s_take ["store", "many"] f_take fd_take)
    (G_take : FnOk P w K mg base CX0 2 f_take fd_take ["store", "many"] spTake) : FnOk P w K mg base CX0 3 f fd ["store", "many"] spChance := by
  refine D.F.ok sc_chance (fun vs H Q E h => ?_) (fun cdv A outer s H vs Q E hr h => ?_)
  · obtain ⟨a, c, z, rfl, _⟩ := h
    rfl
  · obtain ⟨a, c, m, rfl, S, hm, q⟩ := h
    refine ⟨_, (pss_one (ps_ret (pe_cmpR op_eq (pe_call G_take (hr.mono (by omega)) (by rfl) D_take.g D_take.F.kp D_take.b .nil pass0 (pa_cons (pv 0) (pa_cons (pv 1) pa_nil))) pe_int (nomark _)))), ?_⟩
    walk_at "rt"
    refine ⟨a, c, _, rfl, S, hm, fun v H' S' b' ⟨r, e, r0, r1⟩ => ?_⟩
    subst e
    walk_at "rt"
    exact q _ _ S' b' ⟨_, rfl⟩
theorem ok_number {f f_take f_chance : Addr} {fd fd_take fd_chance : FuncData} (B : Bi mg) (D : Dn K mg "_law_number" s_number ["store", "low", "high"] f fd) (D_take : Dn K mg "_law_take" s_take ["store", "many"] f_take fd_take)
    (D_chance : Dn K mg "_law_chance" s_chance ["store", "many"] f_chance fd_chance)
    (G_take : FnOk P w K mg base CX0 2 f_take fd_take ["store", "many"] spTake) (G_chance : FnOk P w K mg base CX0 3 f_chance fd_chance ["store", "many"] spChance) : FnOk P w K mg base CX0 4 f fd ["store", "low", "high"] spRange := by
  refine D.F.ok sc_number (fun vs H Q E h => ?_) (fun cdv A outer s H vs Q E hr h => ?_)
  · obtain ⟨a, c, lo, hi, rfl, _⟩ := h
    rfl
  · obtain ⟨a, c, lo, hi, rfl, S, hlh, hw, q⟩ := h
    refine ⟨_, (pss_cons (ps_set (i := 3) sc_number.nd rfl (.inl rfl) (pe_call G_take (hr.mono (by omega)) (by rfl) D_take.g D_take.F.kp D_take.b .nil pass0 (pa_cons (pv 0) (pa_cons pe_int pa_nil))))
      (pss_cons (ps_if (pt_cmpR op_eq (pv 3) pe_int (nomark _)) (pss_one (ps_ret (pv 1))) pss_nil)
      (pss_cons (ps_if (pt_cmpR op_eq (pv 3) pe_int (nomark _)) (pss_one (ps_ret (pv 2))) pss_nil)
      (pss_cons (ps_if (pt_cmpR op_eq (pv 3) pe_int (nomark _)) (pss_cons (ps_if (pt_val (pe_call G_chance (hr.mono (by omega)) (by rfl) D_chance.g D_chance.F.kp D_chance.b .nil pass0 (pa_cons (pv 0) (pa_cons pe_int pa_nil)))) (pss_one (ps_ret (pe_callB (call_minI rfl) (by rfl) B.min (by decide +kernel) (pa_cons (pe_op op_add (pv 1) pe_int) (pa_cons (pv 2) pa_nil))))) pss_nil)
      (pss_one (ps_ret (pe_callB (call_maxI rfl) (by rfl) B.max (by decide +kernel) (pa_cons (pe_op op_sub (pv 2) pe_int) (pa_cons (pv 1) pa_nil)))))) pss_nil)
      (pss_one (ps_ret (pe_op op_add (pv 1) (pe_call G_take (hr.mono (by omega)) (by rfl) D_take.g D_take.F.kp D_take.b .nil pass0 (pa_cons (pv 0) (pa_cons (pe_op op_add (pe_op op_sub (pv 2) (pv 1)) pe_int) pa_nil)))))))))), ?_⟩
    walk_at "st"
    refine ⟨a, c, _, rfl, S, by decide, fun v H1 S1 b1 ⟨r, e, r0, r1⟩ => ?_⟩
    subst e
    walk_at "st"
    refine ite2 (fun _ => q _ _ S1 b1 ⟨_, rfl, by omega, by omega⟩) (fun _ => ?_)
    walk_at "st"
    refine ite2 (fun _ => q _ _ S1 b1 ⟨_, rfl, by omega, by omega⟩) (fun _ => ?_)
    walk_at "st"
    refine ite2 (fun _ => ?_) (fun _ => ?_)
    · walk_at "st"
      refine ⟨a, c, _, rfl, S1, by decide, fun v H2 S2 b2 ⟨k, e⟩ => ?_⟩
      subst e
      walk_at "rt"
      refine ite2 (fun _ => q _ _ S2 (b1.trans b2) ⟨_, rfl, by split <;> omega, by split <;> omega⟩) (fun _ => q _ _ S2 (b1.trans b2) ⟨_, rfl, by split <;> omega, by split <;> omega⟩)
    · walk_at "rt"
      refine ⟨a, c, _, rfl, S1, by omega, fun v H2 S2 b2 ⟨k, e, k0, k1⟩ => ?_⟩
      subst e
      walk_at "rt"
      exact q _ _ S2 (b1.trans b2) ⟨_, rfl, by omega, by omega⟩
end
end K01
namespace K01
open PySem PySem.Spec PyProof.Rows L2
local macro_rules | `(tactic| walk_at "rd") => `(tactic| simp only [start1, wipe, isR, isBool, isInt, isStr, isLst, isTup, tAsg, gName, gSub, tVar, tC, tOp, tUn, tTest, tIfS, tRet, tRetN, tDrop, tB, tAnd, tOr, tNot, tAndV, tOrV, tNotV, tIf, tCB, tCons, tNil, tNext, tCall, tBM, tTup, tLst, rI0, rI, rEq, rNe, scal, forR_eq, forR2_eq, forS_eq, forL_eq, lcL_eq, lcR_eq, lcS_eq, rLenX, rLenS, rMulS, rRepL, rCatL, tPart, tNoPart, CwR.tReplC, rAllK, rInSg, rNinSg, sgn_inj, rAddS, rInSt, tChain, tM1, tM0, rSplitN, rJoinN, exists_eq, rIntI, rIntB, rIntS, rStrI, rAbs, rOrd, rMin, rMax, rIxL, rIxX, rSetL, rAppend, rIxS, rSlS, rSlL, tSl, List.map_cons, List.map_nil, List.replicate_succ, List.replicate_zero, List.length_cons, List.length_nil, Nat.reduceSub, Nat.reduceAdd, Nat.zero_add, Nat.sub_self, List.getElem?_cons_zero, List.getElem?_cons_succ, List.set_cons_zero, List.set_cons_succ, List.append_nil, List.nil_append, List.cons_append, Option.some.injEq, not_true_eq_false, reduceCtorEq, exists_eq_left', exists_eq_left, exists_eq', exists_and_left, exists_and_right, V.int.injEq, V.str.injEq, V.bl.injEq, V.ref.injEq, List.cons.injEq, and_true, true_and, and_assoc, decide_eq_true_eq, Bool.not_eq_true', decide_eq_false_iff_not, ite_true, ite_false, if_true, if_false, Bool.not_true, Bool.not_false, Bool.false_eq_true, eq_self_iff_true, reduceIte, ne_eq, Int.reduceEq, not_false_eq_true])
local macro_rules | `(tactic| walk_at "rt") => `(tactic| try walk_at "rd")
local macro_rules | `(tactic| walk_at "st") => `(tactic| (walk_at "rt"; refine r_seq ?_; walk_at "rt"))
local macro_rules | `(tactic| walk_at "hp") => `(tactic| first | assumption | exact upd_same | (rw [upd_ne (by assumption)]; walk_at "hp"))
local macro_rules | `(tactic| walk_at "ex1") => `(tactic| ((with_reducible refine Exists.intro ?w (And.intro ?hx ?_)); (case hx => first | exact sq_of (by walk_at "hp") | exact .inl (sq_of (by walk_at "hp")) | exact rfl | (show _ = some (HO.lst _); walk_at "hp"))))
local macro_rules | `(tactic| walk_at "ex") => `(tactic| repeat (first | walk_at "ex1" | walk_at "rd"))
abbrev s_same : Stmt := topS 22
theorem sc_same : FnScope ["one", "two"] ["one", "two"] (defScope s_same) := ⟨rfl, rfl, rfl, by decide +kernel, rfl, by decide +kernel, by decide +kernel⟩
abbrev s_samerows : Stmt := topS 23
theorem sc_samerows : FnScope ["one", "two", "k"] ["one", "two"] (defScope s_samerows) := ⟨rfl, rfl, rfl, by decide +kernel, rfl, by decide +kernel, by decide +kernel⟩
abbrev s_samedicts : Stmt := topS 24
theorem sc_samedicts : FnScope ["one", "two", "key"] ["one", "two"] (defScope s_samedicts) := ⟨rfl, rfl, rfl, by decide +kernel, rfl, by decide +kernel, by decide +kernel⟩
abbrev s_copy : Stmt := topS 25
theorem sc_copy : FnScope ["thing", "copied", "key", "part"] ["thing"] (defScope s_copy) := ⟨rfl, rfl, rfl, by decide +kernel, rfl, by decide +kernel, by decide +kernel⟩
def spSame (n : Nat) : Sp := fun vs H Q _ => ∃ (x y : V) (A B : Addr → Prop) (d e : Dat), vs = [x, y] ∧ At H A d x ∧ At H B e y ∧ d.dep ≤ n ∧ Q (.bl (same d e)) H
def spRows : Nat → Sp
  | 0 => fun _ _ _ _ => False
  | n + 1 => fun vs H Q _ => ∃ (x y : V) (A B : Addr → Prop) (l m : List Dat), vs = [x, y] ∧ ((At H A (.lst l) x ∧ At H B (.lst m) y) ∨ (At H A (.tup l) x ∧ At H B (.tup m) y)) ∧ depL l ≤ n ∧ Q (.bl (sameL l m)) H
section
variable {P : Program} {w : World} {K : PySem.W.Frag} {mg : Str → Option Value} {base : Heap}
theorem ok_same {f fR : Addr} {fd fdR : FuncData} (B : Bi mg) (D : Dn K mg "_law_same" s_same ["one", "two"] f fd) (D_samerows : Dn K mg "_law_same_rows" s_samerows ["one", "two"] fR fdR) (n k : Nat)
    (G_samerows : FnOk P w K mg base CX0 (k + 1) fR fdR ["one", "two"] (spRows n)) : FnOk P w K mg base CX0 (k + 2) f fd ["one", "two"] (spSame n) := by
  refine D.F.ok sc_same (fun vs H Q E h => ?_) (fun cdv A outer s H vs Q E hr h => ?_)
  · obtain ⟨x, y, A, B, d, e, rfl, _⟩ := h
    rfl
  · obtain ⟨x, y, A1, A2, d, e, rfl, hd, he, hn, q⟩ := h
    have hr1 : Room (k + 1) _ := hr
    have hd' := hd
    have he' := he
    refine ⟨_, (pss_cons (ps_if (PW.pt (pw_or (pt_cmpR op_isN (pv 0) pe_non (nomark _)) (pw_or1 (pt_cmpR op_isN (pv 1) pe_non (nomark _))))) (pss_one (ps_ret (pe_and (pe_cmpR op_isN (pv 0) pe_non (nomark _)) (pe_one (pe_cmpR op_isN (pv 1) pe_non (nomark _)))))) pss_nil)
      (pss_cons (ps_if (PW.pt (pw_or (pt_val (pe_callB call_is_bool (by rfl) B.isinstance (by decide +kernel) (pa_cons (pv 0) (pa_cons (pe_bltn (v := .ty "bool") (by rfl) B.bool_ (by decide +kernel) rfl) pa_nil)))) (pw_or1 (pt_val (pe_callB call_is_bool (by rfl) B.isinstance (by decide +kernel) (pa_cons (pv 1) (pa_cons (pe_bltn (v := .ty "bool") (by rfl) B.bool_ (by decide +kernel) rfl) pa_nil))))))) (pss_one (ps_ret (pe_and (pe_callB call_is_bool (by rfl) B.isinstance (by decide +kernel) (pa_cons (pv 0) (pa_cons (pe_bltn (v := .ty "bool") (by rfl) B.bool_ (by decide +kernel) rfl) pa_nil))) (pe_and (pe_callB call_is_bool (by rfl) B.isinstance (by decide +kernel) (pa_cons (pv 1) (pa_cons (pe_bltn (v := .ty "bool") (by rfl) B.bool_ (by decide +kernel) rfl) pa_nil))) (pe_one (pe_cmpR op_eq (pv 0) (pv 1) (nomark _))))))) pss_nil)
      (pss_cons (ps_if (PW.pt (pw_or (pt_val (pe_callB call_is_int (by rfl) B.isinstance (by decide +kernel) (pa_cons (pv 0) (pa_cons (pe_bltn (v := .ty "int") (by rfl) B.int_ (by decide +kernel) rfl) pa_nil)))) (pw_or1 (pt_val (pe_callB call_is_int (by rfl) B.isinstance (by decide +kernel) (pa_cons (pv 1) (pa_cons (pe_bltn (v := .ty "int") (by rfl) B.int_ (by decide +kernel) rfl) pa_nil))))))) (pss_one (ps_ret (pe_and (pe_callB call_is_int (by rfl) B.isinstance (by decide +kernel) (pa_cons (pv 0) (pa_cons (pe_bltn (v := .ty "int") (by rfl) B.int_ (by decide +kernel) rfl) pa_nil))) (pe_and (pe_callB call_is_int (by rfl) B.isinstance (by decide +kernel) (pa_cons (pv 1) (pa_cons (pe_bltn (v := .ty "int") (by rfl) B.int_ (by decide +kernel) rfl) pa_nil))) (pe_one (pe_cmpR op_eq (pv 0) (pv 1) (nomark _))))))) pss_nil)
      (pss_cons (ps_if (PW.pt (pw_or (pt_val (pe_callB call_is_str (by rfl) B.isinstance (by decide +kernel) (pa_cons (pv 0) (pa_cons (pe_bltn (v := .ty "str") (by rfl) B.str_ (by decide +kernel) rfl) pa_nil)))) (pw_or1 (pt_val (pe_callB call_is_str (by rfl) B.isinstance (by decide +kernel) (pa_cons (pv 1) (pa_cons (pe_bltn (v := .ty "str") (by rfl) B.str_ (by decide +kernel) rfl) pa_nil))))))) (pss_one (ps_ret (pe_and (pe_callB call_is_str (by rfl) B.isinstance (by decide +kernel) (pa_cons (pv 0) (pa_cons (pe_bltn (v := .ty "str") (by rfl) B.str_ (by decide +kernel) rfl) pa_nil))) (pe_and (pe_callB call_is_str (by rfl) B.isinstance (by decide +kernel) (pa_cons (pv 1) (pa_cons (pe_bltn (v := .ty "str") (by rfl) B.str_ (by decide +kernel) rfl) pa_nil))) (pe_one (pe_cmpR op_eq (pv 0) (pv 1) (nomark _))))))) pss_nil)
      (pss_cons (ps_if (PW.pt (pw_or (pt_val (pe_callB call_is_dict (by rfl) B.isinstance (by decide +kernel) (pa_cons (pv 0) (pa_cons (pe_bltn (v := .ty "dict") (by rfl) B.dict_ (by decide +kernel) rfl) pa_nil)))) (pw_or1 (pt_val (pe_callB call_is_dict (by rfl) B.isinstance (by decide +kernel) (pa_cons (pv 1) (pa_cons (pe_bltn (v := .ty "dict") (by rfl) B.dict_ (by decide +kernel) rfl) pa_nil))))))) (pss_one ps_never) pss_nil)
      (pss_cons (ps_if (PW.pt (pw_or (PW.pt (pw_and (pt_val (pe_callB call_is_list (by rfl) B.isinstance (by decide +kernel) (pa_cons (pv 0) (pa_cons (pe_bltn (v := .ty "list") (by rfl) B.list_ (by decide +kernel) rfl) pa_nil)))) (pw_and1 (pt_val (pe_callB call_is_list (by rfl) B.isinstance (by decide +kernel) (pa_cons (pv 1) (pa_cons (pe_bltn (v := .ty "list") (by rfl) B.list_ (by decide +kernel) rfl) pa_nil))))))) (pw_or1 (PW.pt (pw_and (pt_val (pe_callB call_is_tuple (by rfl) B.isinstance (by decide +kernel) (pa_cons (pv 0) (pa_cons (pe_bltn (v := .ty "tuple") (by rfl) B.tuple_ (by decide +kernel) rfl) pa_nil)))) (pw_and1 (pt_val (pe_callB call_is_tuple (by rfl) B.isinstance (by decide +kernel) (pa_cons (pv 1) (pa_cons (pe_bltn (v := .ty "tuple") (by rfl) B.tuple_ (by decide +kernel) rfl) pa_nil)))))))))) (pss_one (ps_ret (pe_call G_samerows (hr.mono (by omega)) (by rfl) D_samerows.g D_samerows.F.kp D_samerows.b .nil pass0 (pa_cons (pv 0) (pa_cons (pv 1) pa_nil))))) pss_nil)
      (pss_one (ps_ret pe_bl)))))))), ?_⟩
    rcases d with _ | b | i | z | l | l <;> rcases e with _ | b' | i' | z' | l' | l'
    all_goals simp only [At] at hd he
    all_goals (first | subst hd | (obtain ⟨a, xs, rfl, hd⟩ := hd))
    all_goals (first | subst he | (obtain ⟨a', ys, rfl, he⟩ := he))
    all_goals (repeat (first | (with_reducible refine Exists.intro _ (Exists.intro _ (And.intro hd' ?_))) | (with_reducible refine Exists.intro _ (Exists.intro _ (And.intro he' ?_))) | (with_reducible refine And.intro (Exists.intro _ (Exists.intro _ hd')) ?_) | (with_reducible refine And.intro (Exists.intro _ (Exists.intro _ he')) ?_) | simp only [isR, isBool, isInt, isStr, isLst, isTup, reduceCtorEq, decide_false, decide_true, Bool.or_true, Bool.and_true, Bool.false_and, Bool.true_and] | walk_at "rd" | (with_reducible refine r_seq ?_)))
    all_goals (first | exact q | (simp only [same, reduceCtorEq] at q; exact q) | skip)
    · cases n with
      | zero => rw [Dat.dep] at hn; omega
      | succ n => exact ⟨_, _, A1, A2, l, l', rfl, .inl ⟨hd', he'⟩, by rw [Dat.dep] at hn; omega, by rw [same] at q; exact q⟩
    · cases n with
      | zero => rw [Dat.dep] at hn; omega
      | succ n => exact ⟨_, _, A1, A2, l, l', rfl, .inr ⟨hd', he'⟩, by rw [Dat.dep] at hn; omega, by rw [same] at q; exact q⟩
end
theorem sameL_len : ∀ (l m : List Dat), sameL l m = true → l.length = m.length
  | [], [], _ => rfl
  | d :: l, e :: m, h => by
    rw [sameL, Bool.and_eq_true] at h
    rw [List.length_cons, List.length_cons, sameL_len l m h.2]
  | [], _ :: _, h => by cases h
  | _ :: _, [], h => by cases h
theorem sameL_at : ∀ (l m : List Dat) (i : Nat) (d e : Dat), l[i]? = some d → m[i]? = some e → same d e = false → sameL l m = false
  | d :: l, e :: m, 0, _, _, h1, h2, h => by
    cases h1; cases h2
    rw [sameL, h]; rfl
  | d :: l, e :: m, i + 1, _, _, h1, h2, h => by
    rw [sameL, sameL_at l m i _ _ h1 h2 h, Bool.and_false]
  | [], _, _, _, _, h1, _, _ => by simp at h1
  | _ :: _, [], _, _, _, _, h2, _ => by simp at h2
theorem sameL_all : ∀ (l m : List Dat), l.length = m.length → (∀ (i : Nat) (d e : Dat), l[i]? = some d → m[i]? = some e → same d e = true) → sameL l m = true
  | [], [], _, _ => rfl
  | d :: l, e :: m, hl, h => by
    rw [sameL, h 0 d e rfl rfl, sameL_all l m (by simpa using hl) fun i d e h1 h2 => h (i + 1) d e h1 h2]
    rfl
  | [], _ :: _, h, _ => by simp at h
  | _ :: _, [], h, _ => by simp at h
end K01
namespace K01
open PySem PySem.Spec PyProof.Rows L2
local macro_rules | `(tactic| walk_at "rd") => `(tactic| simp only [start1, wipe, isR, isBool, isInt, isStr, isLst, isTup, tAsg, gName, gSub, tVar, tC, tOp, tUn, tTest, tIfS, tRet, tRetN, tDrop, tB, tAnd, tOr, tNot, tAndV, tOrV, tNotV, tIf, tCB, tCons, tNil, tNext, tCall, tBM, tTup, tLst, rI0, rI, rEq, rNe, scal, forR_eq, forR2_eq, forS_eq, forL_eq, lcL_eq, lcR_eq, lcS_eq, rLenX, rLenS, rMulS, rRepL, rCatL, tPart, tNoPart, CwR.tReplC, rAllK, rInSg, rNinSg, sgn_inj, rAddS, rInSt, tChain, tM1, tM0, rSplitN, rJoinN, exists_eq, rIntI, rIntB, rIntS, rStrI, rAbs, rOrd, rMin, rMax, rIxL, rIxX, rSetL, rAppend, rIxS, rSlS, rSlL, tSl, List.map_cons, List.map_nil, List.replicate_succ, List.replicate_zero, List.length_cons, List.length_nil, Nat.reduceSub, Nat.reduceAdd, Nat.zero_add, Nat.sub_self, List.getElem?_cons_zero, List.getElem?_cons_succ, List.set_cons_zero, List.set_cons_succ, List.append_nil, List.nil_append, List.cons_append, Option.some.injEq, not_true_eq_false, reduceCtorEq, exists_eq_left', exists_eq_left, exists_eq', exists_and_left, exists_and_right, V.int.injEq, V.str.injEq, V.bl.injEq, V.ref.injEq, List.cons.injEq, and_true, true_and, and_assoc, decide_eq_true_eq, Bool.not_eq_true', decide_eq_false_iff_not, ite_true, ite_false, if_true, if_false, Bool.not_true, Bool.not_false, Bool.false_eq_true, eq_self_iff_true, reduceIte, ne_eq, Int.reduceEq, not_false_eq_true])
local macro_rules | `(tactic| walk_at "rt") => `(tactic| try walk_at "rd")
local macro_rules | `(tactic| walk_at "st") => `(tactic| (walk_at "rt"; refine r_seq ?_; walk_at "rt"))
local macro_rules | `(tactic| walk_at "hp") => `(tactic| first | assumption | exact upd_same | (rw [upd_ne (by assumption)]; walk_at "hp"))
local macro_rules | `(tactic| walk_at "ex1") => `(tactic| ((with_reducible refine Exists.intro ?w (And.intro ?hx ?_)); (case hx => first | exact sq_of (by walk_at "hp") | exact .inl (sq_of (by walk_at "hp")) | exact rfl | (show _ = some (HO.lst _); walk_at "hp"))))
local macro_rules | `(tactic| walk_at "ex") => `(tactic| repeat (first | walk_at "ex1" | walk_at "rd"))
section
variable {P : Program} {w : World} {K : PySem.W.Frag} {mg : Str → Option Value} {base : Heap}
/-- what a list and a tuple have in common -/
def SqX (K : PySem.W.Frag) (H : Hp) (a : Addr) (xs : List V) : Prop := SqL K H a xs ∨ SqT K H a xs
theorem ok_rows0 {fR : Addr} {fdR : FuncData} (D : Dn K mg "_law_same_rows" s_samerows ["one", "two"] fR fdR) : FnOk P w K mg base CX0 1 fR fdR ["one", "two"] (spRows 0) :=
  D.F.ok sc_samerows (fun vs H Q E h => h.elim) (fun cdv A outer s H vs Q E hr h => h.elim)
theorem ok_rows {f fR : Addr} {fd fdR : FuncData} (B : Bi mg) (D_same : Dn K mg "_law_same" s_same ["one", "two"] f fd) (D : Dn K mg "_law_same_rows" s_samerows ["one", "two"] fR fdR) (n k : Nat)
    (G_same : FnOk P w K mg base CX0 (k + 1) f fd ["one", "two"] (spSame n)) : FnOk P w K mg base CX0 (k + 2) fR fdR ["one", "two"] (spRows (n + 1)) := by
  refine D.F.ok sc_samerows (fun vs H Q E h => ?_) (fun cdv A outer s H vs Q E hr h => ?_)
  · obtain ⟨x, y, A, B, l, m, rfl, _⟩ := h
    rfl
  · obtain ⟨x, y, A1, A2, l, m, rfl, hx, hn, q⟩ := h
    obtain ⟨a, xs, b, ys, rfl, rfl, ha, hb, hla, hlb, La, Lb⟩ : ∃ a xs b ys, x = .ref a ∧ y = .ref b ∧ SqX K H a xs ∧ SqX K H b ys ∧ xs.length ≤ 1000000 ∧ ys.length ≤ 1000000 ∧ AtL H A1 l xs ∧ AtL H A2 m ys := by
      rcases hx with ⟨⟨a, xs, e, _, h1, h2, h3⟩, b, ys, e', _, h1', h2', h3'⟩ | ⟨⟨a, xs, e, _, h1, h2, h3⟩, b, ys, e', _, h1', h2', h3'⟩
      · exact ⟨a, xs, b, ys, e, e', .inl (sq_of h1), .inl (sq_of h1'), h2, h2', h3, h3'⟩
      · exact ⟨a, xs, b, ys, e, e', .inr (.inl (.inl h1)), .inr (.inl (.inl h1')), h2, h2', h3, h3'⟩
    have ela := La.length
    have elb := Lb.length
    refine ⟨_, (pss_cons (ps_if (pt_cmpR op_ne (pe_callB (call_lenXK (K := K)) (by rfl) B.len PySem.boot_len (pa_cons (pv 0) pa_nil)) (pe_callB (call_lenXK (K := K)) (by rfl) B.len PySem.boot_len (pa_cons (pv 1) pa_nil)) (nomark _)) (pss_one (ps_ret pe_bl)) pss_nil)
      (pss_cons (ps_for PassesOwn.never rfl (pi_range1 (by rfl) B.range (pa_cons (pe_callB (call_lenXK (K := K)) (by rfl) B.len PySem.boot_len (pa_cons (pv 0) pa_nil)) pa_nil)) (pg_name (i := 2) sc_samerows.nd rfl (.inl rfl)) (pss_one (ps_if (pt_not (pt_val (pe_call G_same (hr.mono (by omega)) (by rfl) D_same.g D_same.F.kp D_same.b .nil pass0 (pa_cons (pe_ix (ix_sxK (K := K)) (pv 0) (pv 2) (fun _ _ => rfl)) (pa_cons (pe_ix (ix_sxK (K := K)) (pv 1) (pv 2) (fun _ _ => rfl)) pa_nil))))) (pss_one (ps_ret pe_bl)) pss_nil)))
      (pss_one (ps_ret pe_bl)))), ?_⟩
    walk_at "st"
    refine ⟨_, ha, _, hb, ite2 (fun hne => ?_) (fun heq => ?_)⟩
    · have hs : sameL l m = false := by
        cases e : sameL l m with
        | false => rfl
        | true => exact absurd (sameL_len l m e) (by omega)
      rw [hs] at q
      exact q
    walk_at "st"
    refine ⟨_, ha, by omega, by omega, ?_⟩
    have gl : ∀ i : Nat, i < l.length → ∃ d, l[i]? = some d := fun i h => ⟨_, List.getElem?_eq_getElem h⟩
    refine r_range (fun i σ H' => (∃ x : Option V, σ = [some (.ref a), some (.ref b), x]) ∧ H' = H ∧ ∀ (j : Nat) (d e : Dat), j < i → l[j]? = some d → m[j]? = some e → same d e = true) ⟨⟨_, rfl⟩, rfl, fun j _ _ h => absurd h (Nat.not_lt_zero _)⟩ ?_ ?_
    · rintro i σ H' hi ⟨⟨x, rfl⟩, rfl, hall⟩ N k
      have hi' : i < xs.length := by omega
      obtain ⟨d, hd⟩ : ∃ d, l[i]? = some d := ⟨_, List.getElem?_eq_getElem (by omega)⟩
      obtain ⟨e, he⟩ : ∃ e, m[i]? = some e := ⟨_, List.getElem?_eq_getElem (by omega)⟩
      obtain ⟨v, hv, av⟩ := AtL.get l xs i d La hd
      obtain ⟨u, hu, au⟩ := AtL.get m ys i e Lb he
      have a1 : atI xs (0 + (i : Int)) = some v := by rw [Int.zero_add]; exact atI_nat hv
      have a2 : atI ys (0 + (i : Int)) = some u := by rw [Int.zero_add]; exact atI_nat hu
      walk_at "rd"
      refine ⟨_, ha, _, a1, _, hb, _, a2, ?_⟩
      refine ⟨v, u, A1, A2, d, e, rfl, av, au, Nat.le_trans (dep_get l i d hd) hn, ?_⟩
      walk_at "rd"
      refine ite2 (fun hf => ?_) (fun ht => k _ _ ⟨⟨_, rfl⟩, rfl, fun j d' e' hj h1 h2 => ?_⟩)
      · rw [sameL_at l m i d e hd he hf] at q
        exact q
      · by_cases hji : j = i
        · subst hji
          rw [hd] at h1
          rw [he] at h2
          cases h1
          cases h2
          cases e : same d e with
          | true => rfl
          | false => exact absurd e ht
        · exact hall j d' e' (by omega) h1 h2
    · rintro σ H' ⟨⟨x, rfl⟩, rfl, hall⟩
      walk_at "rd"
      have hs : sameL l m = true := sameL_all l m (by omega) fun i d e h1 h2 => hall i d e (by have := lt_of_get h1; omega) h1 h2
      rw [hs] at q
      exact q
theorem same_all {f fR : Addr} {fd fdR : FuncData} (B : Bi mg) (D : Dn K mg "_law_same" s_same ["one", "two"] f fd) (DR : Dn K mg "_law_same_rows" s_samerows ["one", "two"] fR fdR) : ∀ n : Nat, FnOk P w K mg base CX0 (2 * n + 2) f fd ["one", "two"] (spSame n)
  | 0 => ok_same B D DR 0 0 (ok_rows0 DR)
  | n + 1 => ok_same B D DR (n + 1) (2 * n + 2) (ok_rows B D DR n (2 * n + 1) (same_all B D DR n))
end
end K01
/-! a list comprehension where p's exception is handled -/
namespace HotLc
open PySem PySem.Spec PyProof.Rows L2 L2H
/-- the block's context, p pinned in it -/
abbrev hbk (X : Cx) (p : Addr × Obj) (s : Shared) (H : Hp) (sc : Scope) (ce : Env) (fp : List Addr) : Cx := (X.blk s H sc ce fp).tr [p] (fun _ _ => False)
theorem hot_hbk {X : Cx} {p : Addr × Obj} {s : Shared} {H : Hp} {sc : Scope} {ce : Env} {fp : List Addr} (hot : Hot1 X.A p) : HotC (hbk X p s H sc ce fp) := ⟨p, hot, List.mem_singleton.mpr rfl⟩
section
variable {X : Cx} {elt tg iter : Expr} {ifs : List Expr} {scope : Scope} {own : List (Str × Nat)} {pos : Pos} {wi : TI} {g : TG} {tt : TT} {te : TE}
/-- what the block's pieces are to be -/
structure Parts (X : Cx) (p : Addr × Obj) (scope : Scope) (elt tg : Expr) (ifs : List Expr) (g : TG) (tt : TT) (te : TE) : Prop where
  tgt : ∀ s H C cl fp, PG (hbk X p s H scope (compEnvC scope cl C X.env) fp) tg g
  tst : ∀ s H C cl fp, PTs (hbk X p s H scope (compEnvC scope cl C X.env) fp) ifs tt
  elm : ∀ s H C cl fp, PE (hbk X p s H scope (compEnvC scope cl C X.env) fp) elt te
/-- the state at a turn's head -/
def Head (B : Cx) (fp : List Addr) (tn : Nat → Heap → Prop) (W : Nat → Nat → Hp → Prop) (ω : L2.St) (n : Nat) (z : Shared) : Prop :=
  ∃ k G, W k n G ∧ Inv B [] ω G z ∧ tn k z.heap ∧ ∀ b ∈ fp, G b = none
theorem pe_lcH (hc : HotC X) (hN : X.N.Nodup) (hi : PIH X tg iter wi) (ok : BlkOk X.N X.env.scope scope own) (parts : ∀ p, Hot1 X.A p → Parts X p scope elt tg ifs g tt te)
    (hs : ∀ x, foldedSetIterable iter X.env x = pure x := by intro _; rfl) : PE X (.ListComp elt [⟨tg, iter, ifs, 0⟩] scope pos) (tLc wi g tt te (own.map (·.2))) := by
  obtain ⟨p, hot, inX⟩ := hc
  have P := parts p hot
  refine ⟨fun pins s σ H Q I want => ?_⟩
  rw [eval_ListComp]
  have caught : ∀ y ∈ scope.names, y.2 = .free → ∃ c, X.env.cells.lookup y.1 = some c := by
    intro y hy hf
    exact I.ok.has y.1 (ok.free y hy hf)
  refine wpAny_comprehension_free rfl hs (closure_ok caught) ok.kind (fun y hy e => (ok.uniq y hy).trans (congrArg some e)) ?_
  refine thn (hi.run pins s σ H _ I want) fun src sA hA => thn hA fun itv sB hB => ?_
  obtain ⟨it, fp, tn, J, HB, hit, IB, T, tB, fB, more⟩ := hB
  refine wpAny_newObj_type (newEnv_comp ?_) (Nat.zero_le sizeLine)
  -- the list that is made
  have nD : HB sB.heap.objs.size = none := IB.hok.fresh (Nat.le_refl _)
  obtain ⟨W, ⟨n0, w0⟩, turn⟩ := more _ nD
  obtain ⟨HC, eHC⟩ : ∃ G : Hp, G = L2.upd HB sB.heap.objs.size (.lst []) := ⟨_, rfl⟩
  obtain ⟨sC, eC⟩ : ∃ z : Shared, z = { sB with heap := sB.heap.push { cls := .type "list", data := .seq ([] : List Value).toArray } } := ⟨_, rfl⟩
  rw [← eHC] at w0
  have hpC : sC.heap = sB.heap.push { cls := .type "list", data := .seq ([] : List Value).toArray } := by rw [eC]
  have keepC : ∀ b o, sB.heap.get? b = some o → sC.heap.get? b = some o := by
    intro b o e
    rw [hpC]
    exact Heap.get?_push_of_some _ e
  have IC : Inv X pins σ HC sC := by
    rw [eHC, eC]
    refine IB.laid (t' := sB.toks) (fun b o e => Heap.get?_push_of_some _ e) (Nat.le_refl _) ⟨Nat.zero_le _, [], 0, .nil, ?_⟩
    exact Heap.get?_push_size _ rfl
  have small : ∀ b ∈ fp, b < sB.heap.objs.size := by
    intro b hb
    obtain ⟨o, e, _⟩ := T.obj _ _ tB b hb
    exact Heap.lt_size e
  have fC : ∀ b ∈ fp, FpOk X pins HC b ∧ b < sC.heap.objs.size := by
    intro b hb
    have lt := small b hb
    refine ⟨⟨?_, (fB b hb).2⟩, ?_⟩
    · rw [eHC, upd_ne (Nat.ne_of_lt lt)]
      exact (fB b hb).1
    · rw [hpC, Heap.size_push]
      exact Nat.lt_succ_of_lt lt
  -- the block begins
  have IB0 := block_start IC ok hN fC
  have pB := IC.pin p (List.mem_append_left _ inX)
  have pt := P.tst sC HC sC.heap.objs.size (cellsFrom (sC.heap.objs.size + 1) scope.names (cloFrom X.env.cells scope.names [])) fp
  have pg := P.tgt sC HC sC.heap.objs.size (cellsFrom (sC.heap.objs.size + 1) scope.names (cloFrom X.env.cells scope.names [])) fp
  have pe := P.elm sC HC sC.heap.objs.size (cellsFrom (sC.heap.objs.size + 1) scope.names (cloFrom X.env.cells scope.names [])) fp
  rw [hit, ← eC]
  obtain ⟨ce, eE⟩ : ∃ e : Env, e = compEnvC scope (cellsFrom (sC.heap.objs.size + 1) scope.names (cloFrom X.env.cells scope.names [])) sC.heap.objs.size X.env := ⟨_, rfl⟩
  rw [← eE] at IB0 pt pg pe
  have eL : ce.locals = sC.heap.objs.size := by rw [eE]; rfl
  have IE : Inv (hbk X p sC HC scope ce fp) [] (wipe σ (own.map (·.2))) HC { sC with heap := pushCells (sC.heap.push { cls := .type "dict", data := .dict #[] }) scope.names } := by
    refine (IB0.pins_of (pins' := [p]) fun q hq => ?_).toTry _
    obtain rfl := List.mem_singleton.mp hq
    refine ⟨pushCells_keeps _ _ _ _ (Heap.get?_push_of_some _ pB.1), pB.2.1, ?_, ?_, pB.2.2.2.2⟩
    · show q.1 ≠ ce.locals
      rw [eL]
      exact Nat.ne_of_lt (Heap.lt_size pB.1)
    · intro hm
      rcases List.mem_cons.mp (IC.stkSub q.1 hm) with z | z
      · exact pB.2.2.1 z
      · exact pB.2.2.2.1 z
  have clean : ∀ {ω : L2.St} {G : Hp} {z : Shared}, Inv (hbk X p sC HC scope ce fp) [] ω G z → (∀ b ∈ fp, G b = none) → ∀ b ∈ fp, FpOk (hbk X p sC HC scope ce fp) [] G b := by
    intro ω G z IZ gn b hb
    refine ⟨gn b hb, (IZ.ok.exf b hb).1, IZ.ok.exfs b hb, .inl hb, fun x c e => (IZ.ok.exf b hb).2 x c e, fun q hq => ?_⟩
    obtain rfl : q = p := by simpa using hq
    exact (fC b hb).1.2.2.2.2.2 _ (List.mem_append_left _ inX)
  obtain ⟨sE, eS⟩ : ∃ z : Shared, z = { sC with heap := pushCells (sC.heap.push { cls := .type "dict", data := .dict #[] }) scope.names } := ⟨_, rfl⟩
  rw [← eS] at IE
  have tE : tn 0 sE.heap := by
    refine T.keep _ _ _ tB fun b _ o e => ?_
    rw [eS]
    exact pushCells_keeps _ _ _ _ (Heap.get?_push_of_some _ (keepC b o e))
  have run : codeAny (model X.prog X.w) X.A (.compLoop (.ListComp elt [⟨tg, iter, ifs, 0⟩] scope pos) 0 (.ref it) (.ref sB.heap.objs.size) ce) (compPost (model X.prog X.w) X.A X.xe none (EP X pins σ Q) (.ref sB.heap.objs.size) sC.heap.objs.size) sE := by
    refine compLoop_any (Head (hbk X p sC HC scope ce fp) fp tn W (wipe σ (own.map (·.2)))) ?_ n0 ⟨0, HC, w0, IE, tE, fun b hb => (fC b hb).1.1⟩
    rintro n z ⟨k, G, w, IZ, tz, gn⟩
    have cz := clean IZ gn
    cases turn k n G w with
    | inl e =>
      refine thnF (T.done (hbk X p sC HC scope ce fp) rfl rfl rfl (hot_hbk hot) k [] z _ G (fun _ _ => False) IZ cz tz e.1) fun r y hy => ?_
      obtain ⟨hr, IY⟩ := hy
      subst hr
      have IX : Inv X pins σ G y := IC.call' (ch := fp) IY.os IY.base IY.hok IY.bare fun b hb => by
        obtain ⟨_, f1, f2, f3, f4, f5⟩ := (fC b hb).1
        exact ⟨f3, f1, f4, f5⟩
      have nC : G sC.heap.objs.size = none := eL ▸ IY.free
      obtain ⟨m, hm, _⟩ := IY.loc
      refine ⟨m, eL ▸ hm, fun h' sb => ?_⟩
      obtain ⟨f0, f1, f2, f3, f4, f5⟩ := IC.fpOk (Nat.le_refl _) nC
      exact ⟨V.ref sB.heap.objs.size, G, IX.turned (t' := y.toks) (fun b o hb e' => (sb.2 b hb).trans e') f0 f1 f3 f4 f5, rfl, e.2⟩
    | inr e =>
      obtain ⟨go, Nx, next, step⟩ := e
      refine thnF (T.item (hbk X p sC HC scope ce fp) rfl rfl rfl (hot_hbk hot) k [] z _ G (fun _ _ => False) IZ cz tz go) fun r y hy => ?_
      obtain ⟨u, hr, hy⟩ := hy
      subst hr
      refine thnF hy fun _ y1 hy1 => ?_
      obtain ⟨x, G1, I1, rx, yl, t1, g1⟩ := hy1
      have I2 := I1.pinned (clean I1 g1) (T.obj _ _ t1)
      refine thnF (pg.run _ y1 _ G1 x u _ I2 rx (step x G1 yl)) fun _ y2 hy2 => ?_
      obtain ⟨ω, G2, I3, same, q3⟩ := hy2
      refine thnF (pt.run _ y2 ω G2 _ I3 q3) fun b y3 hy3 => ?_
      obtain ⟨G3, I4, q4⟩ := hy3
      have close : ∀ {y' : Shared} {G' : Hp}, Inv (hbk X p sC HC scope ce fp) ([] ++ pinsAt fp y1.heap) ω G' y' → Nx G' → ∃ m, m < n ∧ Head (hbk X p sC HC scope ce fp) fp tn W (wipe σ (own.map (·.2))) m y' := by
        intro y' G' I' nx
        obtain ⟨m, lt, w'⟩ := next G' nx
        have stay : ∀ b ∈ fp, ∀ o, y1.heap.get? b = some o → y'.heap.get? b = some o ∧ G' b = none := by
          intro b hb o e'
          have z' := I'.pin (b, o) (List.mem_append_right _ (List.mem_append_right _ (mem_pinsAt hb e')))
          exact ⟨z'.1, z'.2.1⟩
        have len : (wipe σ (own.map (·.2))).length = ω.length := by rw [← same, wipe_length]
        refine ⟨m, lt, k + 1, G', w', (I'.unpinned (pins := [])).weak len (fun j v e' => ?_), T.keep _ _ _ t1 fun b hb o e' => (stay b hb o e').1, fun b hb => ?_⟩
        · rw [← same] at e'
          exact (wipe_some e').1
        · obtain ⟨o, e', _⟩ := T.obj _ _ t1 b hb
          exact (stay b hb o e').2
      cases b with
      | true =>
        have q4 : te ω G3 _ := q4
        refine thnF (pe.run _ y3 ω G3 _ I4 q4) fun v y4 hy4 => ?_
        obtain ⟨yv, G4, I5, ry, acc, hD, hz, nx⟩ := hy4
        exact app_ok (X := hbk X p sC HC scope ce fp) I5 hD hz ry fun y5 I6 => close I6 nx
      | false => exact close I4 q4
  rw [eE, eS] at run
  rw [eS] at tE
  exact codeAny_compStart_list run (T.self X.A 0 _ _ _ tE run)
end
end HotLc
/-! a def that is handed the exception which is handled; isinstance of it -/
namespace HotExc
open PySem PySem.Spec PyProof.Rows L2 L2H
/-- isinstance(e, c), e an exception that stands pinned, its own dict (where it has one) tracked -/
def rIsP (K : PySem.W.Frag) (D a : Addr) (d : Option Addr) (xs : List V) (H : Hp) (Q : VK) : Prop :=
  ∃ c, xs = [.ref a, c] ∧ ∃ cv : Value, (∀ u, RelV c u → u = cv) ∧ ∃ b, PySem.W.kitOne K (.ref D) cv = some b ∧ (∀ dx, d = some dx → ∃ fs, H dx = some (.xd fs)) ∧ Q (.bl b) H
theorem call_isP {X : Cx} {a D : Addr} {oe : Obj} {d : Option Addr} (C : ExcC X.K D) (hp : (a, oe) ∈ X.pn) (hz : Zc (.ref D) d oe) (hf : ∃ vs, oe.data = .fields vs) : CallR X (.builtin "isinstance") (rIsP X.K D a d) := by
  intro pins s σ H xs us Q I r want
  obtain ⟨c, rfl, cv, only, b, hb, hd, q⟩ := want
  match us, r with
  | [u, u2], .cons ru (.cons r2 .nil) =>
    obtain rfl : u = Value.ref a := ru
    obtain rfl := only _ r2
    have pinned := (I.pin (a, oe) (List.mem_append_left _ hp)).1
    obtain ⟨vs, hv⟩ := hf
    have nc : PySem.W.notCls oe = true := by
      unfold PySem.W.notCls
      rw [hv]
    have J : ∃ od, PySem.W.InstAt s.heap a oe D od := by
      cases d with
      | none => exact ⟨none, pinned, hz.1, nc, by rw [hz.2]; trivial⟩
      | some dx =>
        obtain ⟨fs, e⟩ := hd dx rfl
        have ob : ObjOk X.prog X.w H s.heap dx (.xd fs) := I.hok dx _ e
        obtain ⟨mA, hns, _⟩ := ob
        obtain ⟨od, ho, _⟩ := lookIn_ns hns
        exact ⟨some od, pinned, hz.1, nc, by rw [hz.2]; exact ho⟩
    obtain ⟨od, J⟩ := J
    have hcl : (PySem.W.clsIn X.K D).isSome = true := by
      obtain ⟨cd, hc, _⟩ := PySem.W.any_some C.hd
      rw [hc]
      rfl
    exact PySem.W.kia_one (PySem.W.kitx_exc hcl C.hg C.hk C.hs C.ha C.hn C.ht C.hm) I.kIn J hb (fun z => nomatch z) fun tk => ⟨.bl b, H, I.kept (t' := tk) fun _ _ z => z, rfl, q⟩
/-- what a def promises that is called while p's exception is handled, and is told of it -/
structure FnE (P : Program) (w : World) (K : PySem.W.Frag) (mg : Str → Option Value) (base : Heap) (CX : CXT) (k : Nat) (f : Addr) (fd : FuncData) (ps : List Str) (sp : Addr × Obj → Sp) : Prop where
  size : ∀ p vs H Q E, sp p vs H Q E → vs.length = ps.length
  go : ∀ (p : Addr × Obj) (A : Around) (outer : List Env) (s : Shared) (H : Hp) (us : List Value) (vs : List V) (Q : VK) (E : XK), RoomH k A → Hot1 A p → PinOk outer H s p → Env0 P w K mg base A outer s H → BindsTo s fd ⟨us, []⟩ (ps.zip us) → Vals vs us → sp p vs H Q E →
    codeAny (model P w) A (.call (.ref f) ⟨us, []⟩) (CR CX outer P w H s Q E) s
theorem FnE.of {CX : CXT} {P : Program} {w : World} {K : PySem.W.Frag} {mg : Str → Option Value} {base : Heap} {k : Nat} {x qual : Str} {st : Stmt} {f : Addr} {fd : FuncData} {N ps : List Str} {sp : Addr × Obj → Sp} (F : Fun K x qual st f fd) (S : FnScope N ps (defScope st))
    (size : ∀ p vs H Q E, sp p vs H Q E → vs.length = ps.length)
    (body : ∀ (p : Addr × Obj) (cdv : Value) (A : Around) (outer : List Env) (s : Shared) (H : Hp) (vs : List V) (Q : VK) (E : XK), Hot1 A p → RoomH k (A.deeper (envOfC qual (defScope st) s.heap.objs.size f cdv)) → sp p vs H Q E →
      ∃ t, PSs (cxH CX P w K mg base N qual (defScope st) f cdv A outer s H E p) (defBody st) t ∧ t { nx := fun _ H' => Q .non H', rt := Q } (L2.start N vs) H) : FnE P w K mg base CX (k + 1) f fd ps sp := by
  obtain ⟨oc, od, kV, doc, pm, an, cdv, ct, osl, rfl, lk, hcd⟩ := F.ex
  refine ⟨size, ?_⟩
  intro p A outer s H us vs Q E room hot pin e0 hb r want
  have n := size _ _ _ _ _ want
  have inK : K.In s.heap := e0.mod.kin.keeps fun b o z => (e0.bs b o z).1
  have noLim := e0.mod.nolimit.keeps fun b o z => (e0.bs b o z).1
  have kinds : ∀ y ∈ ps.zip us, (defScope st).names.lookup y.1 = some .local ∨ ((defScope st).names.lookup y.1 = some .cell ∧ ((cellsFrom (s.heap.objs.size + 1) (defScope st).names []).lookup y.1).isSome = true) := by
    rintro ⟨m, v⟩ hy
    cases S.par m (List.of_mem_zip hy).1 with
    | inl q => exact .inl q
    | inr q => exact .inr ⟨q, PySem.W.cellsFrom_some _ _ _ (.inl q)⟩
  refine codeAny_call_function room.depth (inK _ _ lk) rfl S.co S.gen rfl (PySem.W.codeRec_of inK hcd) (hb _ _ _ _ ?_)
  refine wpAny_newFunctionEnv_cells S.kind kinds fun env he s1 y => ?_
  subst he
  refine ⟨noLim.keeps y.toInCall.keep, codeAny_func ?_⟩
  obtain ⟨t, runs, reads⟩ := body p cdv A outer s H vs Q E hot (room.deeper _) want
  have start := inv_startH (CX := CX) (E := E) S pin e0 n r y
  refine wpAny_mono (runs.run [] s1 (L2.start N vs) H _ start reads) (fun fl s' hs => ?_) fun _ _ z => z
  match fl, hs with
  | .ret u, ⟨v, σ', H', J, rv, q⟩ => exact ⟨v, H', J.os, J.bare, J.base, J.hok, rv, q⟩
  | .next, ⟨σ', H', J, q⟩ => exact ⟨.non, H', J.os, J.bare, J.base, J.hok, rfl, q⟩
  | .brk, ⟨_, _, _, q⟩ => exact q.elim
  | .cont, ⟨_, _, _, q⟩ => exact q.elim
section
variable {X : Cx} {CX : CXT} {k : Nat} {f : Addr} {fd : FuncData} {ps : List Str} {sp : Addr × Obj → Sp} {E : L2.St → XK} {x : Str} {q pos : Pos} {e : Expr} {es : List Expr} {t : TA}
/-- the call of such a def, p pinned -/
theorem pe_callE {p : Addr × Obj} (F : FnE X.prog X.w X.K X.mg X.base CX k f fd ps sp) (room : RoomH k X.A) (hot : Hot1 X.A p) (inX : p ∈ X.pn) (hg : Gl X x) (hm : X.mg x = some (.ref f)) (hk : PySem.W.keepIn X.K (.ref f) = true) (hb : Binds X.K fd ps []) (hx : ∀ σ, PassesAt CX X σ (E σ))
    (ha : PA X (e :: es) t) (hdb : (x == ("__debug__" : Str)) = false := by decide) (he : starEach (e :: es) X.env = (false, eval e X.env) :: starEach es X.env := by rfl) (hpl : (backTo pos (starEach es X.env)).any (·.1) = false := by rfl) :
    PE X (.Call (.Name x q) (e :: es) [] pos) (tCallS (sp p) E t) := by
  refine ⟨fun pins s σ H Q I want => ?_⟩
  refine wpAny_Call_Name_kw (ld_glob I hg hm ?_ hdb)
  refine PySem.W.callWith_K (h₀ := X.base) I.ok.mod.kin hk (thn (ha.run pos pins s σ H _ I want) fun us s1 ⟨vs, H1, I1, r, want1⟩ => ⟨I1.kIn, ?_⟩) he hpl
  have n : us.length = ps.length := by
    rw [← r.length]
    exact F.size _ _ _ _ _ want1
  have b := hb s1 us I1.kIn (by rw [List.append_nil]; exact n)
  rw [List.append_nil] at b
  have P1 := I1.pin p (List.mem_append_left _ inX)
  have pin : PinOk X.stack H1 s1 p := by
    refine ⟨P1.1, P1.2.1, fun hm => ?_, P1.2.2.2.2⟩
    cases List.mem_cons.mp (I1.stkSub p.1 hm) with
    | inl z => exact P1.2.2.1 z
    | inr z => exact P1.2.2.2.1 z
  refine wpAny_call (codeAny_mono (F.go p X.A X.stack s1 H1 us vs Q (E σ) room hot pin I1.env0 b r want1) fun r s' out => ?_)
  match r, out with
  | .error e, out => exact hx σ pins H1 s1 e s' I1 out
  | .ok (.ret u), out => exact I1.after out
  | .ok .next, out => exact out.elim
  | .ok .brk, out => exact out.elim
  | .ok .cont, out => exact out.elim
end
/-- C(e, ..) with an own __init__, the context of what is made None -/
theorem pmkN {X : Cx} {CX : CXT} {x : Str} {C fI : Addr} {k : Nat} {fd : FuncData} {ps : List Str} {sp : Sp} {e : Expr} {es : List Expr} {ta : TA} {p pos : Pos} (T : OexC X.K C) (hi : PySem.W.findIn X.K (.ref C) "__init__" = some (some (.ref fI))) (ti : PySem.W.typeIn X.K (.ref fI) = some (.type "function"))
    (Fi : FnOk X.prog X.w X.K X.mg X.base CX k fI fd ps sp) (room : Room (k + 1) X.A) (hb : Binds X.K fd ps []) (hx : Passes CX X (fun _ _ _ => False)) (hg : Gl X x) (hm : X.mg x = some (.ref C)) (ha : PA X (e :: es) ta)
    (hdb : (x == ("__debug__" : Str)) = false := by decide) (he : starEach (e :: es) X.env = (false, eval e X.env) :: starEach es X.env := by rfl) (hpl : (backTo pos (starEach es X.env)).any (·.1) = false := by rfl) :
    L2N.PMk X (.Call (.Name x p) (e :: es) [] pos) (tMkO C sp [] ta) := by
  intro pins s σ H Q I want
  obtain ⟨nm, ql, N, bs, bm, sn, sub, ab, col, dd, k0, k1, k2, k3, k5, atC, chain⟩ := T.cls
  refine wpAny_Call_Name_kw (ld_glob I hg hm ?_ hdb)
  refine PySem.W.callWith_K (h₀ := X.base) I.ok.mod.kin T.kC (thn (ha.run pos pins s σ H _ I want) fun us s1 got => ?_) he hpl
  obtain ⟨vs, H1, I1, r1, few, q1⟩ := got
  refine ⟨I1.kIn, ?_⟩
  obtain ⟨hp, g, dr, tk, os⟩ := s1
  have up : hp.objs.size ≤ hp.objs.size + 1 := Nat.le_add_right _ _
  have want1 := q1 (hp.objs.size + 1) (I1.hok.fresh up)
  rw [List.append_nil] at want1
  obtain ⟨hp', eh⟩ : ∃ z, z = (hp.push (PySem.W.kdv_tup us)).push (PySem.HandSPX.excO C hp.objs.size) := ⟨_, rfl⟩
  have keep : ∀ b o, hp.get? b = some o → hp'.get? b = some o := by
    intro b o z
    rw [eh]
    exact (Heap.get?_push_of_some _ (Heap.get?_push_of_some _ z))
  have there : hp'.get? (hp.objs.size + 1) = some (PySem.HandSPX.excO C hp.objs.size) := by
    rw [eh]
    heap_get
  have I2 : Inv X pins σ (L2.upd H1 (hp.objs.size + 1) (exo (hp.objs.size + 1) C none)) ⟨hp', g, dr, tk, os⟩ := I1.laid (t' := tk) keep up (exo_ok there)
  have r2 : Vals (V.ref (hp.objs.size + 1) :: vs) (Value.ref (hp.objs.size + 1) :: us) := .cons rfl r1
  have n : (Value.ref (hp.objs.size + 1) :: us).length = ps.length := by
    rw [← r2.length]
    exact Fi.len _ _ _ _ want1
  have b := hb ⟨hp', g, dr, tk, os⟩ (Value.ref (hp.objs.size + 1) :: us) I2.kIn (by rw [List.append_nil]; exact n)
  rw [List.append_nil] at b
  have short : us.length ≤ sizeLine := by
    rw [← r1.length, sizeLine_eq]
    omega
  refine wpAny_call (PySem.HandSPX.call_own F.excBase_ValueError (fun Y => PySem.HandSPX.refsVE_contains Y bm chain) (I1.kIn _ _ atC) (PySem.W.looks_findIn I1.kIn hi) (fun self => PySem.W.bind_fn I1.kIn self ti) short ?_)
  rw [List.nil_append, ← eh]
  refine codeAny_mono (Fi.run _ X.stack _ _ ⟨Value.ref (hp.objs.size + 1) :: us, []⟩ _ _ _ (fun _ _ _ => False) (room.make C us []) (I2.env0.make C us []) b r2 want1) fun r s' out => ?_
  match r, out with
  | .error er, out => exact hx pins σ _ _ er s' I2 out
  | .ok (.ret u), out =>
    obtain ⟨v, H2, os2, bare2, un2, hok2, rv, ev, d, fs, ea, ed, hd1, q2⟩ := out
    subst ev
    obtain ⟨h2, g2, d2, t2, os'⟩ := s'
    refine ⟨rv, ?_⟩
    obtain ⟨t0, G, J, kG, ge, hoe, na⟩ := mk_end0 (d2 := d2) (t2 := t2) I1 up keep un2 hok2 os2 bare2 ea ed hd1
    exact ⟨_, _, _, ⟨G, g2, d2, t2, os'⟩, _, .ref C, some d, rfl, J, kG, ge, hoe, ⟨rfl, rfl, fun vs z => by cases z; rfl⟩, rfl, rfl, na, rfl, bare2, raises_own T.exC T.tyC, q2⟩
  | .ok .next, out => exact out.elim
  | .ok .brk, out => exact out.elim
  | .ok .cont, out => exact out.elim
end HotExc
/-! d.get(k), d a dict of the module that stands as it was written -/
namespace HotExc
open PySem PySem.Spec PyProof.Rows L2
/-- what such a dict says of a key -/
def Says (K : PySem.W.Frag) (a : Addr) (z : Str) (v : V) : Prop := ∃ r, PySem.W.nsIn K a z = some r ∧ ((∃ u, r = some u ∧ RelV v u) ∨ (r = none ∧ v = .non))
def Writ (K : PySem.W.Frag) (w : World) (a : Addr) : Prop := ∃ es n, K.lookup a = some ⟨.type "dict", none, .dict es n, #[]⟩ ∧ PySem.W.KeysLit w.params es.toList ∧ (a == sysModules) = false
def tKGet (K : PySem.W.Frag) (w : World) (td ty : TE) : TE := fun σ H Q => td σ H fun x H1 => ∃ a, x = .ref a ∧ Writ K w a ∧ ty σ H1 fun y H2 => ∃ z, y = .str z ∧ ∃ v, Says K a z v ∧ Q v H2
section
variable {X : Cx} {o e : Expr} {apos cpos : Pos} {td ty : TE}
theorem pe_kget (ho : PE X o td) (he : PE X e ty) (m : M1 X o "get" apos e cpos) : PE X (.Call (.Attribute o "get" apos) [e] [] cpos) (tKGet X.K X.w td ty) := by
  refine ⟨fun pins s σ H Q I want => ?_⟩
  refine wpAny_Call_method m.base m.few m.line PySem.F.plainAttrs_dict PySem.F.slot_dict_get PySem.F.type_dict_get (thn (ho.run pins s σ H _ I want) fun u s1 got => ?_)
  obtain ⟨x, H1, I1, rx, a, rfl, ⟨es, n, at_, keys, low⟩, q1⟩ := got
  obtain rfl : u = Value.ref a := rx
  have is1 := PySem.W.mapOf_K (prog := X.prog) (w := X.w) I1.kIn at_ keys
  refine ⟨is1.typeIs, fun b eb => ?_, ?_⟩
  · cases eb
    exact ⟨_, I1.kIn _ _ at_, rfl⟩
  rw [m.trees]
  refine Calls.callWith_builtin rfl (Calls.evalArgs_plain (Calls.spliced_cons (thn (he.run pins s1 σ H1 _ I1 q1) fun iv s2 got => Calls.spliced_nil ?_)))
  obtain ⟨y, H2, I2, ry, z, rfl, v, ⟨r, er, hv⟩, q2⟩ := got
  obtain ⟨t, rfl⟩ := (show ∃ t, iv = Value.str z t from ry)
  have is2 := PySem.W.mapOf_K (prog := X.prog) (w := X.w) I2.kIn at_ keys
  have ef : findBy Value.isStrOf es z = r := PySem.W.find_K at_ er
  refine call_meetsIn PySem.F.slot_dict_get is2.typeIs PySem.F.entry_dict_get (PySem.F.args_dict_get_2 _ _) (meets_dict_get (strKind X.prog X.w) a (strKind_is X.prog X.w z t) low) ⟨_, is2, ⟨v, H2, I2.tok _, ?_, q2⟩⟩
  show RelV v ((findBy Value.isStrOf es z).getD .none)
  rw [ef]
  rcases hv with ⟨u, rfl, ru⟩ | ⟨rfl, rfl⟩
  · exact ru
  · rfl
end
end HotExc
/-! f(e, .., k = v, ..) in a try's body: what may come out depends on the slots -/
namespace HotExc
open PySem PySem.Spec PyProof.Rows L2
def tCallKS (sp : Sp) (gV : List V → List V → List V) (E : L2.St → XK) (t tk : TA) : TE := fun σ H Q => t σ H fun vs H1 => tk σ H1 fun zs H2 => sp (gV vs zs) H2 Q (E σ)
theorem pe_callKS {X : Cx} {CX : CXT} {k : Nat} {f : Addr} {fd : FuncData} {ps ks : List Str} {sp : Sp} {E : L2.St → XK} {x : Str} {p pos : Pos} {e : Expr} {es : List Expr} {kws : List Keyword} {t tk : TA} {g : List Value → List Value → List Value} {gV : List V → List V → List V}
    (F : FnOk X.prog X.w X.K X.mg X.base CX k f fd ps sp) (room : Room k X.A) (hg : Gl X x) (hm : X.mg x = some (.ref f)) (hk : PySem.W.keepIn X.K (.ref f) = true) (hb : KBinds X.K fd ps ks g gV) (hx : ∀ σ, PassesAt CX X σ (E σ))
    (ha : PA X (e :: es) t) (hkw : PK X kws tk) (hall : (backToKw pos (keywordEach kws X.env)).all (·.1.isSome) = true := by rfl) (hks : (backToKw pos (keywordEach kws X.env)).filterMap (·.1) = ks := by rfl)
    (hdb : (x == ("__debug__" : Str)) = false := by decide) (he : starEach (e :: es) X.env = (false, eval e X.env) :: starEach es X.env := by rfl)
    (hpl : ((backTo pos (starEach (e :: es) X.env)).any (·.1) || (backToKw pos (keywordEach kws X.env)).any (·.1.isNone)) = false := by rfl) : PE X (.Call (.Name x p) (e :: es) kws pos) (tCallKS sp gV E t tk) := by
  refine ⟨fun pins s σ H Q I want => ?_⟩
  refine wpAny_Call_Name_kw (ld_glob I hg hm ?_ hdb)
  refine PySem.W.callWith_KW (h₀ := X.base) I.ok.mod.kin hk hall (thn (ha.run pos pins s σ H _ I want) fun us s1 got => ?_) hpl he
  obtain ⟨vs, H1, I1, r1, want1⟩ := got
  refine thn (hkw.run pos pins s1 σ H1 _ I1 want1) fun ws s2 got => ?_
  obtain ⟨zs, H2, I2, rz, want2⟩ := got
  refine ⟨I2.kIn, ?_⟩
  rw [hks]
  have r2 := hb.rel r1 rz
  have n : (g us ws).length = ps.length := by
    rw [← r2.length]
    exact F.len _ _ _ _ want2
  refine wpAny_call (codeAny_mono (F.run X.A X.stack s2 H2 ⟨us, ks.zip ws⟩ (g us ws) (gV vs zs) Q (E σ) room I2.env0 (hb.to s2 us ws I2.kIn n) r2 want2) fun r s' out => ?_)
  match r, out with
  | .error e, out => exact hx σ pins H2 s2 e s' I2 out
  | .ok (.ret u), out => exact I2.after out
  | .ok .next, out => exact out.elim
  | .ok .brk, out => exact out.elim
  | .ok .cont, out => exact out.elim
end HotExc
namespace K01
open PySem PySem.Spec PyProof.Rows L2
/-! ### lists, copied and turned -/
def rListOf (K : PySem.W.Frag) (xs : List V) (H : Hp) (Q : VK) : Prop := ∃ p, xs = [V.ref p] ∧ ∃ ys, (SqL K H p ys ∨ SqT K H p ys) ∧ ∀ l, H l = none → Q (.ref l) (L2.upd H l (.lst ys))
theorem call_listK {X : Cx} {K : PySem.W.Frag} (h : X.K = K := by rfl) : CallR X (.type "list") (rListOf K) := callR_mono (h ▸ call_list_of) fun _ _ _ ⟨p, e, ys, h1, q⟩ => ⟨p, ys, e, h1, q⟩
theorem pe_revLK {X : Cx} {K : PySem.W.Frag} {e : Expr} {te : TE} {k : Nat} {p1 p2 p3 pos : Pos} (he : PE X e te) (h : X.K = K := by rfl) : PE X (.Subscript e (.Slice none none (some (.UnaryOp .USub (.Constant (.int 1) k p1) p2)) p3) pos) (tRevL K te) := h ▸ pe_revL he
theorem cut_to {xs : List V} {i : Nat} (h : i ≤ xs.length) : cutV xs none (some (i : Int)) = xs.take i := by
  unfold cutV
  rw [HT.sIx_none, HT.sIx_nat, List.drop_zero, Nat.sub_zero, Nat.min_eq_left h]
theorem cut_from {xs : List V} {i : Nat} (h : i ≤ xs.length) : cutV xs (some (i : Int)) none = xs.drop i := by
  unfold cutV
  rw [HT.sIx_none, HT.sIx_nat, Nat.min_eq_left h]
  exact List.take_of_length_le (by rw [List.length_drop]; omega)
theorem perm_pick {xs : List V} {i : Nat} {v : V} (h : xs[i]? = some v) : (v :: (xs.take i ++ xs.drop (i + 1))).Perm xs := by
  have hi := lt_of_get h
  have e : xs = xs.take i ++ v :: xs.drop (i + 1) := by
    have e2 := (List.getElem?_eq_some_iff.mp h).2
    rw [← e2, ← List.drop_eq_getElem_cons hi, List.take_append_drop]
  conv => rhs; rw [e]
  exact (List.perm_middle).symm
end K01
/-! own words for the draws, dicts, comprehensions with a test, exceptions -/
namespace HotExc
open PySem PySem.Spec PyProof.Rows L2 L2H
theorem pe_imp {X : Cx} {e : Expr} {t t' : TE} (h : PE X e t) (k : ∀ σ H Q, t' σ H Q → t σ H Q) : PE X e t' := ⟨fun pins s σ H Q I q => h.run pins s σ H Q I (k _ _ _ q)⟩
theorem ps_imp {X : Cx} {e : Stmt} {t t' : TS} (h : PS X e t) (k : ∀ D σ H, t' D σ H → t D σ H) : PS X e t' := ⟨fun pins s σ H D I q => h.run pins s σ H D I (k _ _ _ q)⟩
theorem takesN0 {X : Cx} : L2N.Takes X (fun _ _ _ _ => False) := fun _ _ x => by
  obtain ⟨_, _, _, _, _, _, _, _, _, _, _, _, _, _, _, _, w⟩ := x
  exact w.elim
/-- a call of a def that may raise, where it does not -/
theorem passS0 {X : Cx} : ∀ σ, PassesAt (L2N.CX X.prog X.w) X σ (WE (fun _ _ _ _ => False) σ) := fun σ => L2N.passAt takesN0 σ
def tCallSD (sp : Sp) (dvs : List V) (E : L2.St → XK) (t : TA) : TE := fun σ H Q => t σ H fun vs H1 => sp (vs ++ dvs) H1 Q (E σ)
theorem pe_callSD {X : Cx} {CX : CXT} {k : Nat} {f : Addr} {fd : FuncData} {ps : List Str} {sp : Sp} {dvs : List V} {ds : List Value} {E : L2.St → XK} {x : Str} {p pos : Pos} {e : Expr} {es : List Expr} {t : TA}
    (F : FnOk X.prog X.w X.K X.mg X.base CX k f fd ps sp) (hr : Room k X.A) (hg : Gl X x) (hm : X.mg x = some (.ref f)) (hk : PySem.W.keepIn X.K (.ref f) = true) (hb : Binds X.K fd ps ds) (hd : Vals dvs ds) (hx : ∀ σ, PassesAt CX X σ (E σ))
    (ha : PA X (e :: es) t) (hdb : (x == ("__debug__" : Str)) = false := by decide) (he : starEach (e :: es) X.env = (false, eval e X.env) :: starEach es X.env := by rfl) (hpl : (backTo pos (starEach es X.env)).any (·.1) = false := by rfl) :
    PE X (.Call (.Name x p) (e :: es) [] pos) (tCallSD sp dvs E t) := by
  refine ⟨fun pins s σ H Q I h => ?_⟩
  refine wpAny_Call_Name_kw (ld_glob I hg hm ?_ hdb)
  refine PySem.W.callWith_K (h₀ := X.base) I.ok.mod.kin hk (thn (ha.run pos pins s σ H _ I h) fun us s1 got => ?_) he hpl
  obtain ⟨vs, H1, I1, r, q⟩ := got
  refine ⟨I1.kIn, ?_⟩
  have r2 : Vals (vs ++ dvs) (us ++ ds) := r.append hd
  have hl : (us ++ ds).length = ps.length := by rw [← r2.length]; exact F.len _ _ _ _ q
  refine wpAny_call (codeAny_mono (F.run X.A X.stack s1 H1 ⟨us, []⟩ (us ++ ds) (vs ++ dvs) Q (E σ) hr I1.env0 (hb s1 us I1.kIn hl) r2 q) fun r s' hq => ?_)
  match r, hq with
  | .error e, hq => exact hx σ pins H1 s1 e s' I1 hq
  | .ok (.ret u), hq => exact I1.after hq
  | .ok .next, hq => exact hq.elim
  | .ok .brk, hq => exact hq.elim
  | .ok .cont, hq => exact hq.elim
/-! dicts with text keys that stand in H -/
def tG (td ty : TE) : TE := fun σ H Q => td σ H fun x H1 => ty σ H1 fun y H2 => ∃ a, x = .ref a ∧ ∃ z, y = .str z ∧ ∃ kvs, H2 a = some (.dK kvs) ∧ ∃ v, valV kvs (Sum.inr z) = some v ∧ Q v H2
def tG2 (td ty tx : TE) : TE := fun σ H Q => td σ H fun x H1 => ∃ a, x = .ref a ∧ ∃ kvs, H1 a = some (.dK kvs) ∧ ty σ H1 fun y H2 => tx σ H2 fun u H3 => ∃ z, y = .str z ∧ H3 a = some (.dK kvs) ∧ Q ((valV kvs (Sum.inr z)).getD u) H3
def sP (td ty tv : TE) : TS := fun D σ H => tv σ H fun v H1 => td σ H1 fun x H2 => ty σ H2 fun y H3 => ∃ a, x = .ref a ∧ ∃ z, y = .str z ∧ ∃ kvs, H3 a = some (.dK kvs) ∧ kvs.length < sizeLine ∧ D.nx σ (L2.upd H3 a (.dK (putK kvs (Sum.inr z) v)))
section
variable {X : Cx} {o i e f value : Expr} {pos pos' apos cpos : Pos} {td ty tx tv : TE}
theorem pe_gS (hu : X.A.units + 1 < cLine) (ho : PE X o td) (hi : PE X i ty) (hs : NoSl i) : PE X (.Subscript o i pos) (tG td ty) := by
  refine ⟨fun pins s σ H Q I h => ?_⟩
  refine subD_of PySem.F.slot_dict_getitem.lookup hs (thn (ho.run pins s σ H _ I h) fun u s1 ⟨x, H1, I1, rx, q1⟩ => thn (hi.run pins s1 σ H1 _ I1 q1) fun iv s2 ⟨y, H2, I2, ry, a, ex, z, ez, kvs, hk, v, hv, q2⟩ => ?_)
  subst ex
  obtain rfl : u = Value.ref a := rx
  have g : DGet H2 a y (some v) := by
    subst ez
    rw [← hv]
    exact DGet.k (k := Sum.inr z) hk
  exact ⟨dict_typeIs I2 g, d_getItem hu I2 g ry fun w' s3 I3 rw' => ⟨v, H2, I3, rw', q2⟩⟩
theorem ps_pS (hu : X.A.units + 1 < cLine) (ho : PE X o td) (hi : PE X i ty) (hv : PE X value tv) (hs : swapsWith value (some (.Subscript o i pos')) pos.line X.env = pure false) :
    PS X (.Assign [.Subscript o i pos'] value pos) (sP td ty tv) := by
  refine ⟨fun pins s σ H D I h => ?_⟩
  refine wpAny_Assign_Subscript (thn (hv.run pins s σ H _ I h) fun r s1 ⟨v, H1, I1, rv, q1⟩ => thn (ho.run pins s1 σ H1 _ I1 q1) fun u s2 ⟨x, H2, I2, rx, q2⟩ => thn (hi.run pins s2 σ H2 _ I2 q2) fun iv s3 ⟨y, H3, I3, ry, a, ex, z, ez, kvs, hk, hl, q3⟩ => ?_) hs
  subst ex
  obtain rfl : u = Value.ref a := rx
  have g : DPut H3 a y v (L2.upd H3 a (.dK (putK kvs (Sum.inr z) v))) := by
    subst ez
    exact DPut.k (k := Sum.inr z) hk hl
  exact d_setItem hu I3 g ry rv fun s4 I4 => ⟨σ, _, I4, q3⟩
theorem pe_gS2 (hu : X.A.units + 1 < cLine) (ho : PE X o td) (he : PE X e ty) (hf : PE X f tx) (m : M2 X o "get" apos e f cpos) : PE X (.Call (.Attribute o "get" apos) [e, f] [] cpos) (tG2 td ty tx) := by
  refine ⟨fun pins s σ H Q I h => ?_⟩
  refine wpAny_Call_method m.base m.few m.line PySem.F.plainAttrs_dict PySem.F.slot_dict_get PySem.F.type_dict_get (thn (ho.run pins s σ H _ I h) fun u s1 ⟨x, H1, I1, rx, a, ex, kvs, hk, q1⟩ => ?_)
  subst ex
  obtain rfl : u = Value.ref a := rx
  obtain ⟨d1, d2, _⟩ := isD_at I1 (.inl ⟨kvs, .inl hk⟩)
  refine ⟨d1, d2, ?_⟩
  rw [m.trees]
  refine Calls.callWith_builtin rfl (Calls.evalArgs_plain (Calls.spliced_cons (thn (he.run pins s1 σ H1 _ I1 q1) fun iv s2 ⟨y, H2, I2, ry, q2⟩ => Calls.spliced_cons (thn (hf.run pins s2 σ H2 _ I2 q2) fun dv s3 ⟨z, H3, I3, rz, zz, ez, hk3, q3⟩ => Calls.spliced_nil ?_))))
  have g : DGet H3 a y (valV kvs (Sum.inr zz)) := by
    subst ez
    exact DGet.k (k := Sum.inr zz) hk3
  exact d_get2 hu I3 g ry rz fun w' s4 I4 rw' => ⟨_, H3, I4, rw', q3⟩
end
def rTupOf (K : PySem.W.Frag) (xs : List V) (H : Hp) (Q : VK) : Prop := ∃ p, xs = [V.ref p] ∧ ∃ ys, SqL K H p ys ∧ ∀ l, H l = none → Q (.ref l) (L2.upd H l (.tup ys))
theorem call_tupK {X : Cx} {K : PySem.W.Frag} (h : X.K = K := by rfl) : CallR X (.type "tuple") (rTupOf K) := h ▸ fun pins s σ H xs us Q I r q => call_tuple_of pins s σ H xs us Q I r (by
  obtain ⟨p, e, ys, hs, q⟩ := q
  exact ⟨p, ys, e, .inl ⟨hs, q⟩⟩)
/-- isinstance(e, c) of the handled exception, whose class is told by the reading -/
def rIsZ (K : PySem.W.Frag) (cls : Value) (D a : Addr) (d : Option Addr) (xs : List V) (H : Hp) (Q : VK) : Prop := cls = .ref D ∧ rIsP K D a d xs H Q
theorem call_isZ {X : Cx} {K : PySem.W.Frag} {a D : Addr} {oe : Obj} {cls : Value} {d : Option Addr} (C : ExcC K D) (hp : (a, oe) ∈ X.pn) (hz : L2N.Zn cls d oe) (hf : ∃ vs, oe.data = .fields vs) (hk : X.K = K := by rfl) : CallR X (.builtin "isinstance") (rIsZ K cls D a d) := by
  subst hk
  intro pins s σ H xs us Q I r want
  obtain ⟨e, want⟩ := want
  exact call_isP C hp (by rw [← e]; exact hz.zc) hf pins s σ H xs us Q I r want
theorem r_isZ {K : PySem.W.Frag} {D a c : Addr} {d : Option Addr} {b : Bool} {H : Hp} {Q : VK} (hk : PySem.W.kitOne K (.ref D) (.ref c) = some b) (hd : ∀ dx, d = some dx → ∃ fs, H dx = some (.xd fs)) (q : Q (.bl b) H) : rIsZ K (.ref D) D a d [.ref a, .ref c] H Q :=
  ⟨rfl, _, rfl, .ref c, fun u r => r, b, hk, hd, q⟩
theorem r_isZV {K : PySem.W.Frag} {D a : Addr} {d : Option Addr} {b : Bool} {H : Hp} {Q : VK} (hk : PySem.W.kitOne K (.ref D) (.type "ValueError") = some b) (hd : ∀ dx, d = some dx → ∃ fs, H dx = some (.xd fs)) (q : Q (.bl b) H) : rIsZ K (.ref D) D a d [.ref a, .ty "ValueError"] H Q :=
  ⟨rfl, _, rfl, .type "ValueError", fun u r => r, b, hk, hd, q⟩
end HotExc
namespace K01
open PySem PySem.Spec PyProof.Rows L2 TL HotExc
theorem StoreAt.put {H : Hp} {a c p : Addr} {o : HO} (S : StoreAt H a c) (n1 : p ≠ a) (n2 : p ≠ c) : StoreAt (L2.upd H p o) a c := by
  obtain ⟨⟨cells, pos, val, turn, seed, h1, h2, h3, h4⟩, n⟩ := S
  exact ⟨⟨cells, pos, val, turn, seed, by rw [upd_ne n1.symm]; exact h1, by rw [upd_ne n2.symm]; exact h2, h3, h4⟩, n⟩
theorem StoreAt.new {H : Hp} {a c p : Addr} {o : HO} (S : StoreAt H a c) (n : H p = none) : StoreAt (L2.upd H p o) a c := by
  obtain ⟨cells, pos, val, turn, seed, h1, h2, _⟩ := S.ex
  exact S.put (ne_of_none h1 n).symm (ne_of_none h2 n).symm
theorem StoreAt.ne1 {H : Hp} {a c p : Addr} (S : StoreAt H a c) (n : H p = none) : p ≠ a := by
  obtain ⟨cells, pos, val, turn, seed, h1, h2, _⟩ := S.ex
  exact (ne_of_none h1 n).symm
theorem StoreAt.ne2 {H : Hp} {a c p : Addr} (S : StoreAt H a c) (n : H p = none) : p ≠ c := by
  obtain ⟨cells, pos, val, turn, seed, h1, h2, _⟩ := S.ex
  exact (ne_of_none h2 n).symm
theorem But.putNew {a p : Addr} {H1 H4 : Hp} {o : HO} (h : But a H1 H4) (np : H1 p = none) : But a H1 (L2.upd H4 p o) := fun b x hb e => by
  rw [upd_ne (ne_of_none e np)]
  exact h b x hb e
theorem But.pushNew {a p : Addr} {H1 H2 : Hp} {o : HO} (np : H1 p = none) (h : But a (L2.upd H1 p o) H2) : But a H1 H2 := fun b x hb e => h b x hb (by rw [upd_ne (ne_of_none e np)]; exact e)
theorem But.free {a c q : Addr} {H H' : Hp} (h : But a H H') (S : StoreAt H' a c) (n : H' q = none) : H q = none := by
  cases e : H q with
  | none => rfl
  | some o =>
    have := h q o (S.ne1 n) e
    rw [n] at this
    cases this
theorem size_ok {n : Nat} (h : n ≤ 1000000) : n < sizeLine := Nat.lt_of_le_of_lt h (by rw [PySem.sizeLine_eq]; decide)
/-! comprehensions with a test, folded -/
def LcT (J : It) (g : TG) (tt : TT) (te : TE) (vs : List Nat) (σ : L2.St) (H1 : Hp) (D : Addr) (Q : Hp → Prop) : Prop := ∃ W : Nat → Nat → Hp → Prop, (∃ m, W 0 m (L2.upd H1 D (.lst []))) ∧ ∀ i m G, W i m G →
  (J.stop i G ∧ Q G) ∨ (J.go i G ∧ ∃ Nx : Hp → Prop, (∀ G', Nx G' → ∃ m', m' < m ∧ W (i + 1) m' G') ∧ ∀ x G', J.yld i G x G' → g x (wipe σ vs) G' fun ω G2 => wipe ω vs = wipe σ vs ∧ tt ω G2 fun b G3 =>
    if b = true then te ω G3 fun y G4 => ∃ got, G4 D = some (.lst got) ∧ got.length < sizeLine ∧ Nx (L2.upd G4 D (.lst (got ++ [y]))) else Nx G3)
theorem lcT_eq {K : PySem.W.Frag} {tl te : TE} {g : TG} {tt : TT} {vs : List Nat} {σ : L2.St} {H : Hp} {Q : VK} : tLc (iList K tl) g tt te vs σ H Q = tl σ H (fun v H1 => ∃ a, v = V.ref a ∧ ∃ xs, SqL K H1 a xs ∧ ∀ D, H1 D = none → LcT (Itl K a) g tt te vs σ H1 D (Q (.ref D))) := by
  show tl σ H _ = tl σ H _
  congr 1
  funext v H1
  exact propext ⟨fun ⟨a, e, ⟨xs, h⟩, q⟩ => ⟨a, e, xs, h, q⟩, fun ⟨a, e, xs, h, q⟩ => ⟨a, e, ⟨xs, h⟩, q⟩⟩
theorem lcRT_eq {ta : TA} {te : TE} {g : TG} {tt : TT} {vs : List Nat} {σ : L2.St} {H : Hp} {Q : VK} : tLc (iRng1 ta) g tt te vs σ H Q = ta σ H (fun vs' H1 => ∃ j : Int, vs' = [V.int j] ∧ -(2 ^ 62) ≤ j ∧ j < 2 ^ 62 ∧ ∀ D, H1 D = none → LcT (Itr 0 j.toNat) g tt te vs σ H1 D (Q (.ref D))) := rfl
section
variable {j : Nat} {tt : TT} {te : TE} {vs : List Nat} {σ : L2.St} {H1 : Hp} {D : Addr} {Qd : Hp → Prop}
theorem r_lcT {K : PySem.W.Frag} {a : Addr} (xs : List V) (Pv : Nat → Hp → Prop) (hw : ∀ x, wipe ((wipe σ vs).set j (some x)) vs = wipe σ vs) (h0 : Pv 0 (L2.upd H1 D (.lst []))) (hl : ∀ i H, i ≤ xs.length → Pv i H → SqL K H a xs)
    (hs : ∀ i x H, xs[i]? = some x → Pv i H → ∀ (N : VK) (M : Hp → Prop), (∀ y H4 got, H4 D = some (.lst got) → got.length < sizeLine → Pv (i + 1) (L2.upd H4 D (.lst (got ++ [y]))) → N y H4) → (∀ H3, Pv (i + 1) H3 → M H3) →
      tt ((wipe σ vs).set j (some x)) H fun b H3 => if b = true then te ((wipe σ vs).set j (some x)) H3 N else M H3) (hd : ∀ H, Pv xs.length H → Qd H) : LcT (Itl K a) (gName j) tt te vs σ H1 D Qd :=
  lc_list (g := gName j) Pv h0 hl (fun i x H hx hp => ⟨hw x, hs i x H hx hp _ _ (fun y H4 got h1 h2 h3 => ⟨got, h1, h2, h3⟩) fun _ h => h⟩) hd
theorem r_lcTL {K : PySem.W.Frag} {a : Addr} (xs : List V) (Pv : Nat → Hp → Prop) (hw : ∀ x, wipe ((wipe σ vs).set j (some x)) vs = wipe σ vs) (h0 : Pv 0 (L2.upd H1 D (.lst []))) (hl : ∀ i H, i ≤ xs.length → Pv i H → SqL K H a xs)
    (hs : ∀ i x H, xs[i]? = some x → Pv i H → ∀ N : VK, (∀ y H4 got, H4 D = some (.lst got) → got.length < sizeLine → Pv (i + 1) (L2.upd H4 D (.lst (got ++ [y]))) → N y H4) → te ((wipe σ vs).set j (some x)) H N) (hd : ∀ H, Pv xs.length H → Qd H) : LcT (Itl K a) (gName j) tYes te vs σ H1 D Qd :=
  r_lcT xs Pv hw h0 hl (fun i x H hx hp N M kN _ => by
    simp only [tYes, if_pos]
    exact hs i x H hx hp N kN) hd
theorem r_lcRT {n : Nat} (Pv : Nat → Hp → Prop) (hw : ∀ x, wipe ((wipe σ vs).set j (some x)) vs = wipe σ vs) (h0 : Pv 0 (L2.upd H1 D (.lst [])))
    (hs : ∀ i H, i < n → Pv i H → ∀ (N : VK) (M : Hp → Prop), (∀ y H4 got, H4 D = some (.lst got) → got.length < sizeLine → Pv (i + 1) (L2.upd H4 D (.lst (got ++ [y]))) → N y H4) → (∀ H3, Pv (i + 1) H3 → M H3) →
      tt ((wipe σ vs).set j (some (.int (0 + i)))) H fun b H3 => if b = true then te ((wipe σ vs).set j (some (.int (0 + i)))) H3 N else M H3) (hd : ∀ H, Pv n H → Qd H) : LcT (Itr 0 n) (gName j) tt te vs σ H1 D Qd :=
  lc_range (g := gName j) Pv h0 (fun i H hi hp => ⟨hw _, hs i H hi hp _ _ (fun y H4 got h1 h2 h3 => ⟨got, h1, h2, h3⟩) fun _ h => h⟩) hd
end
theorem But0.new {H : Hp} {D : Addr} {x : HO} (h : H D = none) : ∀ b o, H b = some o → L2.upd H D x b = some o := fun b o e => by
  rw [upd_ne (fun z => by rw [z, h] at e; cases e)]
  exact e
theorem But0.put {H H' : Hp} {D : Addr} {x : HO} (h : H D = none) (k : ∀ b o, H b = some o → H' b = some o) : ∀ b o, H b = some o → L2.upd H' D x b = some o := fun b o e => by
  rw [upd_ne (fun z => by rw [z, h] at e; cases e)]
  exact k b o e
theorem kp_ne {H : Hp} {p D : Addr} {o : HO} (h : H p = some o) (n : H D = none) : p ≠ D := fun z => by
  rw [z, n] at h
  cases h
theorem But0.put' {H : Hp} {p D : Addr} {o x : HO} (h : H p = some o) (n : p ≠ D) : L2.upd H D x p = some o := (upd_ne n).trans h
theorem at_lst {H : Hp} {a : Addr} {xs : List V} {l : List Dat} (h : H a = some (.lst xs)) (hl : xs.length ≤ 1000000) (r : AtL H (fun _ => True) l xs) : At H (fun _ => True) (.lst l) (.ref a) := ⟨a, xs, rfl, trivial, h, hl, r⟩
theorem at_tup {H : Hp} {a : Addr} {xs : List V} {l : List Dat} (h : H a = some (.tup xs)) (hl : xs.length ≤ 1000000) (r : AtL H (fun _ => True) l xs) : At H (fun _ => True) (.tup l) (.ref a) := ⟨a, xs, rfl, trivial, h, hl, r⟩
theorem atl_cons {H : Hp} {A : Addr → Prop} {d : Dat} {l : List Dat} {v : V} {r : List V} (h : At H A d v) (h2 : AtL H A l r) : AtL H A (d :: l) (v :: r) := ⟨v, r, rfl, h, h2⟩
def Keeps (H H' : Hp) : Prop := ∀ b o, H b = some o → H' b = some o
theorem Keeps.refl (H : Hp) : Keeps H H := fun _ _ h => h
theorem Keeps.trans {H H1 H2 : Hp} (h : Keeps H H1) (k : Keeps H1 H2) : Keeps H H2 := fun b o e => k b o (h b o e)
theorem Keeps.new {H : Hp} {p : Addr} {x : HO} (n : H p = none) : Keeps H (L2.upd H p x) := But0.new n
theorem Keeps.put {H H' : Hp} {p : Addr} {x : HO} (k : Keeps H H') (n : H p = none) : Keeps H (L2.upd H' p x) := But0.put n k
theorem Keeps.free {H H' : Hp} {p : Addr} (k : Keeps H H') (n : H' p = none) : H p = none := by
  cases e : H p with
  | none => rfl
  | some o => rw [k p o e] at n; cases n
theorem Keeps.store {H H' : Hp} {a c : Addr} (S : StoreAt H a c) (k : Keeps H H') : StoreAt H' a c := by
  obtain ⟨⟨cells, pos, val, turn, seed, h1, h2, h3, h4⟩, n⟩ := S
  exact ⟨⟨cells, pos, val, turn, seed, k _ _ h1, k _ _ h2, h3, h4⟩, n⟩
theorem Keeps.but {a : Addr} {H H' : Hp} (k : Keeps H H') : But a H H' := fun b o _ e => k b o e
theorem inV_strs (z : Str) : ∀ ws : List Str, inV (.str z) (ws.map V.str) = decide (z ∈ ws)
  | [] => rfl
  | y :: ws => by
    have ih := inV_strs z ws
    unfold inV at ih ⊢
    rw [List.map_cons, List.any_cons, ih]
    show ((y == z) || decide (z ∈ ws)) = decide (z ∈ y :: ws)
    by_cases h : y = z
    · subst h
      simp
    · have e : (y == z) = false := by simpa using h
      rw [e, Bool.false_or]
      exact decide_eq_decide.mpr ⟨fun m => List.mem_cons_of_mem _ m, fun m => (List.mem_cons.mp m).elim (fun z' => absurd z'.symm h) id⟩
theorem flat_strs : ∀ ws : List Str, (ws.map V.str).all flatV = true
  | [] => rfl
  | _ :: ws => flat_strs ws
/-- a text in a row of texts -/
def rInW (K : PySem.W.Frag) : R2 := fun x y H Q => ∃ z, x = .str z ∧ ∃ p, y = .ref p ∧ ∃ ws : List Str, (SqL K H p (ws.map V.str) ∨ SqT K H p (ws.map V.str)) ∧ Q (.bl (decide (z ∈ ws))) H
def rNinW (K : PySem.W.Frag) : R2 := fun x y H Q => ∃ z, x = .str z ∧ ∃ p, y = .ref p ∧ ∃ ws : List Str, (SqL K H p (ws.map V.str) ∨ SqT K H p (ws.map V.str)) ∧ Q (.bl (!decide (z ∈ ws))) H
theorem op_inW {X : Cx} {K : PySem.W.Frag} (h : X.K = K := by rfl) : OpR X (compareOp .In) (rInW K) := opR_mono (h ▸ op_in_seq) fun _ _ _ _ ⟨z, e, p, e2, ws, hs, q⟩ => ⟨p, _, e2, hs, by rw [e]; rfl, flat_strs ws, by rw [e, inV_strs]; exact q⟩
theorem op_ninW {X : Cx} {K : PySem.W.Frag} (h : X.K = K := by rfl) : OpR X (compareOp .NotIn) (rNinW K) := opR_mono (h ▸ op_notIn_seq) fun _ _ _ _ ⟨z, e, p, e2, ws, hs, q⟩ => ⟨p, _, e2, hs, by rw [e]; rfl, flat_strs ws, by rw [e, inV_strs]; exact q⟩
/-- a class's own def -/
def clsS (i j : Nat) : Stmt := match topS i with
  | .ClassDef _ _ _ b _ _ _ _ _ _ _ => b.getD j (.Pass ⟨0, 0, 0, 0⟩)
  | _ => .Pass ⟨0, 0, 0, 0⟩
def spIni1 (C : Addr) (fld : Str) : Sp := fun vs H Q _ => ∃ a y, vs = [.ref a, y] ∧ H a = some (exo a C none) ∧ ∀ dx, H dx = none → dx ≠ a → Q .non (L2.upd (L2.upd H dx (exd dx [(fld, y)])) a (exo a C (some dx)))
def spIni2 (C : Addr) (f1 f2 : Str) : Sp := fun vs H Q _ => ∃ a y z, vs = [.ref a, y, z] ∧ H a = some (exo a C none) ∧ ∀ dx, H dx = none → dx ≠ a → Q .non (L2.upd (L2.upd (L2.upd H dx (exd dx [(f1, y)])) a (exo a C (some dx))) dx (exd dx [(f2, z), (f1, y)]))
section
variable {P : Program} {w : World} {K : PySem.W.Frag} {mg : Str → Option Value} {base : Heap}
/-- a def that may let an exception out, its context None -/
theorem okN {x qual : Str} {st : Stmt} {f : Addr} {fd : FuncData} {N ps : List Str} {k : Nat} {sp : Sp} (F : Fun K x qual st f fd) (S : FnScope N ps (defScope st)) (len : ∀ vs H Q E, sp vs H Q E → vs.length = ps.length)
    (body : ∀ (cdv : Value) (A : Around) (outer : List Env) (s : Shared) (H : Hp) (vs : List V) (Q : VK) (E : XK), Room k (A.deeper (envOfC qual (defScope st) s.heap.objs.size f cdv)) → sp vs H Q E →
      ∃ t, PSs (cxOf (L2N.CX P w) P w K mg base N qual (defScope st) f cdv A outer s H E) (defBody st) t ∧ t { nx := fun _ H' => Q .non H', rt := Q } (L2.start N vs) H) : FnOk P w K mg base (L2N.CX P w) (k + 1) f fd ps sp := by
  obtain ⟨oc, od, kV, doc, pm, an, cdv, ct, osl, rfl, lk, hcd⟩ := F.ex
  refine fn_of lk hcd S len ?_
  intro A outer s H vs Q E hr h
  exact body cdv A outer s H vs Q E hr h
/-- what is known of an own exception class -/
structure Exn (K : PySem.W.Frag) (mg : Str → Option Value) (x : Str) (C fI : Addr) : Prop where
  oex : OexC K C
  g : mg x = some (.ref C)
  ini : PySem.W.findIn K (.ref C) "__init__" = some (some (.ref fI))
  fn : PySem.W.typeIn K (.ref fI) = some (.type "function")
theorem mk_same {H : Hp} {a d : Addr} {u v w x : HO} (na : H a = none) (ne : d ≠ a) : L2.upd (del (L2.upd (L2.upd (L2.upd H a u) d v) a w) a) d x = L2.upd H d x := by
  funext b
  by_cases h1 : b = d
  · rw [h1, upd_same, upd_same]
  · rw [upd_ne h1, upd_ne h1]
    by_cases h2 : b = a
    · rw [h2, del_same, na]
    · rw [del_ne h2, upd_ne h2, upd_ne h1, upd_ne h2]
theorem mk1 {C : Addr} {fld : Str} {y : V} {H : Hp} {Q : XK} (q : ∀ d, H d = none → Q (.ref C) (some d) (L2.upd H d (.xd [(fld, y)]))) : [y].length ≤ 1000 ∧ ∀ a, H a = none → spIni1 C fld (.ref a :: ([y] ++ [])) (L2.upd H a (exo a C none))
    (fun v H2 => v = .non ∧ ∃ (d : Addr) (fs : List (Str × V)), H2 a = some (exo a C (some d)) ∧ H2 d = some (exd d fs) ∧ H d = none ∧ Q (.ref C) (some d) (L2.upd (del H2 a) d (.xd fs))) (fun _ _ _ => False) := by
  refine ⟨by rw [List.length_singleton]; decide, fun a na => ⟨a, y, rfl, upd_same, fun dx n ne => ?_⟩⟩
  have n' : H dx = none := (upd_ne ne).symm.trans n
  refine ⟨rfl, dx, _, upd_same, (upd_ne ne).trans upd_same, n', ?_⟩
  rw [mk_same na ne]
  exact q dx n'
end
theorem mk2 {C : Addr} {f1 f2 : Str} {y z : V} {H : Hp} {Q : XK} (q : ∀ d, H d = none → Q (.ref C) (some d) (L2.upd H d (.xd [(f2, z), (f1, y)]))) : [y, z].length ≤ 1000 ∧ ∀ a, H a = none → spIni2 C f1 f2 (.ref a :: ([y, z] ++ [])) (L2.upd H a (exo a C none))
    (fun v H2 => v = .non ∧ ∃ (d : Addr) (fs : List (Str × V)), H2 a = some (exo a C (some d)) ∧ H2 d = some (exd d fs) ∧ H d = none ∧ Q (.ref C) (some d) (L2.upd (del H2 a) d (.xd fs))) (fun _ _ _ => False) := by
  refine ⟨Nat.le_of_ble_eq_true rfl, fun a na => ⟨a, y, z, rfl, upd_same, fun dx n ne => ?_⟩⟩
  have n' : H dx = none := (upd_ne ne).symm.trans n
  refine ⟨rfl, dx, _, (upd_ne (Ne.symm ne)).trans upd_same, upd_same, n', ?_⟩
  have e : ∀ (u v w v2 x : HO), L2.upd (del (L2.upd (L2.upd (L2.upd (L2.upd H a u) dx v) a w) dx v2) a) dx x = L2.upd H dx x := fun u v w v2 x => by
    funext b
    by_cases h1 : b = dx
    · rw [h1, upd_same, upd_same]
    · rw [upd_ne h1, upd_ne h1]
      by_cases h2 : b = a
      · rw [h2, del_same, na]
      · rw [del_ne h2, upd_ne h1, upd_ne h2, upd_ne h1, upd_ne h2]
  rw [e]
  exact q dx n'
/-- a def of the top whose parameters are not all positional -/
structure Dk (K : PySem.W.Frag) (mg : Str → Option Value) (x : Str) (st : Stmt) (f : Addr) (fd : FuncData) : Prop where
  F : Fun K x x st f fd
  g : mg x = some (.ref f)
def spPickL : Sp := fun vs H Q _ => ∃ (a c p : Addr) (xs : List V), vs = [.ref a, .ref p] ∧ StoreAt H a c ∧ H p = some (.lst xs) ∧ p ≠ a ∧ xs ≠ [] ∧ xs.length ≤ 1000 ∧ Drawn H a c (fun v => v ∈ xs) Q
end K01
namespace K01
open PySem PySem.Spec PyProof.Rows L2 TL HotExc
local macro_rules | `(tactic| walk_at "rd") => `(tactic| simp only [start1, wipe, isR, isBool, isInt, isStr, isLst, isTup, tAsg, gName, gSub, tVar, tC, tOp, tUn, tTest, tIfS, tRet, tRetN, tDrop, tB, tAnd, tOr, tNot, tAndV, tOrV, tNotV, tIf, tCB, tCons, tNil, tNext, tCall, tBM, tTup, tLst, rI0, rI, rEq, rNe, scal, forR_eq, forR2_eq, forS_eq, forL_eq, lcT_eq, lcRT_eq, lcS_eq, rLenX, rLenS, rListOf, tRevL, rMulS, rRepL, rCatL, tPart, tNoPart, CwR.tReplC, rAllK, rInSg, rNinSg, sgn_inj, rAddS, rInSt, tChain, tM1, tM0, rSplitN, rJoinN, exists_eq, rIntI, rIntB, rIntS, rStrI, rAbs, rOrd, rMin, rMax, rIxL, rIxX, rSetL, rAppend, rIxS, rSlS, rSlL, tSl, List.map_cons, List.map_nil, List.replicate_succ, List.replicate_zero, List.length_cons, List.length_nil, Nat.reduceSub, Nat.reduceAdd, Nat.zero_add, Nat.sub_self, List.getElem?_cons_zero, List.getElem?_cons_succ, List.set_cons_zero, List.set_cons_succ, List.append_nil, List.nil_append, List.cons_append, Option.some.injEq, not_true_eq_false, reduceCtorEq, exists_eq_left', exists_eq_left, exists_eq', exists_and_left, exists_and_right, V.int.injEq, V.str.injEq, V.bl.injEq, V.ref.injEq, List.cons.injEq, and_true, true_and, and_assoc, decide_eq_true_eq, Bool.not_eq_true', decide_eq_false_iff_not, ite_true, ite_false, if_true, if_false, Bool.not_true, Bool.not_false, Bool.false_eq_true, eq_self_iff_true, reduceIte, ne_eq, Int.reduceEq, not_false_eq_true])
local macro_rules | `(tactic| walk_at "rt") => `(tactic| try walk_at "rd")
local macro_rules | `(tactic| walk_at "st") => `(tactic| (walk_at "rt"; refine r_seq ?_; walk_at "rt"))
local macro_rules | `(tactic| walk_at "hp") => `(tactic| first | assumption | exact upd_same | (rw [upd_ne (by assumption)]; walk_at "hp"))
local macro_rules | `(tactic| walk_at "ex1") => `(tactic| ((with_reducible refine Exists.intro ?w (And.intro ?hx ?_)); (case hx => first | exact sq_of (by walk_at "hp") | exact .inl (sq_of (by walk_at "hp")) | exact rfl | (show _ = some (HO.lst _); walk_at "hp"))))
local macro_rules | `(tactic| walk_at "ex") => `(tactic| repeat (first | walk_at "ex1" | walk_at "rd"))
theorem same_ok {n : Nat} {x y : V} {d : Dat} {H : Hp} {Q : VK} {E : XK} (hx : At H (fun _ => True) d x) (hy : At H (fun _ => True) d y) (hd : d.dep ≤ n) (q : Q (.bl true) H) : spSame n [x, y] H Q E := ⟨x, y, _, _, d, d, rfl, hx, hy, hd, by rw [same_refl]; exact q⟩
theorem store_tup {H : Hp} {a c l : Addr} {xs : List V} (S : StoreAt H a c) (h : H l = some (.tup xs)) : l ≠ a := fun e => by
  obtain ⟨_, _, _, _, _, h2, _⟩ := S.ex
  rw [e, h2] at h
  cases h
def spLaw (K : PySem.W.Frag) : Sp := fun vs H Q _ => ∃ (a : Addr) (ns : List Int), vs = [.ref a] ∧ SqL K H a (ns.map V.int) ∧ ns.length ≤ 63 ∧ ∀ H', Q (.bl true) H'
section
variable {P : Program} {w : World} {K : PySem.W.Frag} {mg : Str → Option Value} {base : Heap}
theorem ok_pickL {f f_take : Addr} {fd fd_take : FuncData} (B : Bi mg) (D : Dn K mg "_law_pick" s_pick ["store", "row"] f fd) (D_take : Dn K mg "_law_take" s_take ["store", "many"] f_take fd_take)
    (G_take : FnOk P w K mg base CX0 2 f_take fd_take ["store", "many"] spTake) : FnOk P w K mg base CX0 3 f fd ["store", "row"] spPickL := by
  refine D.F.ok sc_pick (fun vs H Q E h => ?_) (fun cdv A outer s H vs Q E hr h => ?_)
  · obtain ⟨a, c, p, xs, rfl, _⟩ := h
    rfl
  · obtain ⟨a, c, p, xs, rfl, S, hp, hpa, hne, hl, q⟩ := h
    refine ⟨_, (pss_cons (ps_if (pt_cmpR op_eq (pe_callB (call_lenXK (K := K)) (by rfl) B.len PySem.boot_len (pa_cons (pv 1) pa_nil)) pe_int (nomark _)) (pss_one (ps_ret pe_non)) pss_nil)
      (pss_one (ps_ret (pe_ix (ix_listK (K := K)) (pv 1) (pe_call G_take (hr.mono (by omega)) (by rfl) D_take.g D_take.F.kp D_take.b .nil pass0 (pa_cons (pv 0) (pa_cons (pe_callB (call_lenXK (K := K)) (by rfl) B.len PySem.boot_len (pa_cons (pv 1) pa_nil)) pa_nil))) (fun _ _ => rfl)))))
, ?_⟩
    have hpos : 0 < xs.length := List.length_pos_iff.mpr hne
    walk_at "st"
    refine ⟨_, .inl (sq_of hp), ite2 (fun e => absurd e (by omega)) (fun _ => ?_)⟩
    walk_at "rt"
    refine ⟨_, .inl (sq_of hp), ?_⟩
    refine ⟨a, c, _, rfl, S, by omega, fun v H' S' b' ⟨r, e, r0, r1⟩ => ?_⟩
    subst e
    obtain ⟨k, hk, hk2⟩ := atI_get (xs := xs) (i := r) r0 (by omega)
    walk_at "rt"
    exact ⟨_, sq_of (b' p _ hpa hp), _, hk, q _ _ S' b' (List.mem_of_getElem? hk2)⟩
end
end K01
/-! f( *x, e ): a starred argument ahead of others -/
namespace HotExc
open PySem PySem.Spec PyProof.Rows L2
theorem evalArgs_more {M : Model} {A : Around} {E : Value → Shared → Prop} {s : Shared} {f : Value} {b : Bool} {x : Sem Value} {y : Bool × Sem Value} {rest : List (Bool × Sem Value)} {Q : Args → Shared → Prop}
    (h : wpAny M A (spliced ((b, x) :: y :: rest)) (fun vs s' => Q ⟨vs, []⟩ s') E s) : wpAny M A (evalArgs f true ((b, x) :: y :: rest) []) Q E s := by
  unfold evalArgs
  cases b with
  | false =>
    show wpAny M A (spliced ((false, x) :: y :: rest) >>= _) Q E s
    refine wpAny_bind (wpAny_mono h (fun vs s' h' => ?_) fun _ _ x => x)
    refine wpAny_holding ?_
    exact wpAny_bind (wpAny_pure (wpAny_bind (wpAny_pure (wpAny_pure h'))))
  | true =>
    show wpAny M A (spliced ((true, x) :: y :: rest) >>= _) Q E s
    refine wpAny_bind (wpAny_mono h (fun vs s' h' => ?_) fun _ _ x => x)
    refine wpAny_holding ?_
    exact wpAny_bind (wpAny_pure (wpAny_bind (wpAny_pure (wpAny_pure h'))))
def tCallT (sp : Sp) (E : XK) (t : TA) : TE := fun σ H Q => t σ H fun vs H1 => sp vs H1 Q E
theorem pe_callT {X : Cx} {CX : CXT} {k : Nat} {f : Addr} {fd : FuncData} {ps : List Str} {sp : Sp} {E : XK} {x : Str} {p sp_ pos : Pos} {e e2 : Expr} {es : List Expr} {t : TA}
    (F : FnOk X.prog X.w X.K X.mg X.base CX k f fd ps sp) (hr : Room k X.A) (hg : Gl X x) (hm : X.mg x = some (.ref f)) (hk : PySem.W.keepIn X.K (.ref f) = true) (hb : Binds X.K fd ps []) (hx : Passes CX X E) (ha : PA X (.Starred e sp_ :: e2 :: es) t)
    (hdb : (x == ("__debug__" : Str)) = false := by decide) (he : starEach (.Starred e sp_ :: e2 :: es) X.env = (true, eval e X.env) :: starEach (e2 :: es) X.env := by rfl)
    (he2 : starEach (e2 :: es) X.env = (false, eval e2 X.env) :: starEach es X.env := by rfl) : PE X (.Call (.Name x p) (.Starred e sp_ :: e2 :: es) [] pos) (tCallT sp E t) := by
  refine ⟨fun pins s σ H Q I h => ?_⟩
  refine wpAny_Call_Name_kw (ld_glob I hg hm ?_ hdb)
  have z := ha.run pos pins s σ H _ I h
  rw [he, he2] at z ⊢
  refine PySem.W.ks_call rfl (PySem.W.keeps_K hk) (evalArgs_more (thn z fun us s1 ⟨vs, H1, I1, r, q⟩ => ⟨I1.kIn, ?_⟩))
  exact run_fn F hr hb .nil hx I1 r (by rw [List.append_nil]; exact q)
def TTm (c : TT) : Prop := ∀ (σ : L2.St) (H : Hp) (Q Q' : Bool → Hp → Prop), (∀ b H, Q b H → Q' b H) → c σ H Q → c σ H Q'
theorem r_while {c : TT} {tb : TS} {D : Ends} {σ : L2.St} {H : Hp} (hm : TTm c) (W : Nat → L2.St → Hp → Prop) (h0 : ∃ m, W m σ H)
    (hs : ∀ m σ H, W m σ H → ∀ N : L2.St → Hp → Prop, (∀ m' σ' H', m' < m → W m' σ' H' → N σ' H') → c σ H fun b H1 => if b = true then tb { D with nx := N, ct := N, bk := D.nx } σ H1 else D.nx σ H1) : tWhile c tb D σ H := by
  refine ⟨W, h0, fun m σ H w => ?_⟩
  refine hm σ H _ _ (fun b H1 q => ?_) (hs m σ H w (fun σ' H' => ∃ m', m' < m ∧ W m' σ' H') fun m' σ' H' l w => ⟨m', l, w⟩)
  cases b with
  | true => exact ⟨_, fun σ' H' h => h, q⟩
  | false => exact q
theorem mono_notN {i : Nat} : TTm (tTest (tOp (fun x y H Q => y = .non ∧ Q (.bl (!decide (x = .non))) H) (tVar i) (tC .non))) := by
  rintro σ H Q Q' k ⟨x, hx, hy, b, e, q⟩
  exact ⟨x, hx, hy, b, e, k _ _ q⟩
end HotExc
namespace Tw
/-! ### trees, their text, the machine that reads it -/
inductive F where
  | nil
  | cons (d : List Nat) (s r : F)
def F.cnt : F → Nat
  | .nil => 0
  | .cons _ s r => 1 + s.cnt + r.cnt
def F.dep : F → Nat
  | .nil => 0
  | .cons _ s r => max (1 + s.dep) r.dep
def F.len : F → Nat
  | .nil => 0
  | .cons _ _ r => 1 + r.len
def F.tx : F → List Nat
  | .nil => []
  | .cons d s r => d ++ 40 :: (s.tx ++ 41 :: r.tx)
def F.snoc : F → List Nat → F → F
  | .nil, d, s => .cons d s .nil
  | .cons e t r, d, s => .cons e t (r.snoc d s)
def F.ps : F → List (List Nat × F)
  | .nil => []
  | .cons d s r => (d, s) :: r.ps
def F.of : List (List Nat × F) → F
  | [] => .nil
  | (d, s) :: r => .cons d s (F.of r)
def low (c : Nat) : Prop := 97 ≤ c ∧ c ≤ 122
def lod (c : Nat) : Prop := (97 ≤ c ∧ c ≤ 122) ∨ (48 ≤ c ∧ c ≤ 57)
instance (c : Nat) : Decidable (low c) := by unfold low; infer_instance
instance (c : Nat) : Decidable (lod c) := by unfold lod; infer_instance
/-- a place name -/
def nm : List Nat → Prop
  | [] => False
  | c :: r => low c ∧ r.length ≤ 5 ∧ ∀ x ∈ r, lod x
instance : (l : List Nat) → Decidable (nm l)
  | [] => isFalse id
  | c :: r => by unfold nm; infer_instance
def okd (d : List Nat) : Prop := d = [45] ∨ nm d
def F.good : F → Prop
  | .nil => True
  | .cons d s r => okd d ∧ s.good ∧ r.good
structure S where
  w : List Nat
  b : Nat
  n : Nat
def step (s : S) (c : Nat) : Option S :=
  if c = 40 ∧ s.w ≠ [] then some ⟨[], s.b + 1, s.n + 1⟩
  else if c = 41 ∧ s.w = [] ∧ 0 < s.b then some ⟨[], s.b - 1, s.n⟩
  else if s.w = [] ∧ (c = 45 ∨ nm [c]) ∧ s.b < 13 ∧ s.n < 2000 then some ⟨[c], s.b, s.n⟩
  else if s.w ≠ [] ∧ nm (s.w ++ [c]) then some ⟨s.w ++ [c], s.b, s.n⟩
  else none
def run (s : S) (i : Nat) : List Nat → Option Nat
  | [] => if s.w ≠ [] ∨ 0 < s.b then some i else none
  | c :: r => match step s c with
    | some t => run t (i + 1) r
    | none => some i
def fault (l : List Nat) : Option Nat := run ⟨[], 0, 0⟩ 0 l
theorem low_lod {c : Nat} (h : low c) : lod c := .inl h
theorem low_ne {c : Nat} (h : low c) : c ≠ 40 ∧ c ≠ 41 ∧ c ≠ 45 := by obtain ⟨h1, h2⟩ := h; omega
theorem lod_ne {c : Nat} (h : lod c) : c ≠ 40 ∧ c ≠ 41 ∧ c ≠ 45 := by rcases h with ⟨h1, h2⟩ | ⟨h1, h2⟩ <;> omega
theorem nm_ne {d : List Nat} (h : nm d) : d ≠ [] := by rintro rfl; exact h
theorem nm_mem {d : List Nat} (h : nm d) {c : Nat} (m : c ∈ d) : lod c := by
  cases d with
  | nil => cases h
  | cons x r =>
    rcases List.mem_cons.mp m with rfl | m
    · exact .inl h.1
    · exact h.2.2 c m
theorem okd_ne {d : List Nat} (h : okd d) : d ≠ [] := by
  rcases h with rfl | h
  · simp
  · exact nm_ne h
theorem okd_len {d : List Nat} (h : okd d) : d.length ≤ 6 := by
  rcases h with rfl | h
  · simp
  · cases d with
    | nil => simp
    | cons x r => have := h.2.1; simp; omega
theorem okd_mem {d : List Nat} (h : okd d) {c : Nat} (m : c ∈ d) : c ≠ 40 ∧ c ≠ 41 := by
  rcases h with rfl | h
  · rw [List.mem_singleton.mp m]; omega
  · exact ⟨(lod_ne (nm_mem h m)).1, (lod_ne (nm_mem h m)).2.1⟩
theorem nm_one {c : Nat} : nm [c] ↔ low c := by
  show (low c ∧ ([] : List Nat).length ≤ 5 ∧ ∀ x ∈ ([] : List Nat), lod x) ↔ low c
  simp
theorem nm_snoc {w : List Nat} {c : Nat} (h : nm w) : nm (w ++ [c]) ↔ w.length < 6 ∧ lod c := by
  cases w with
  | nil => cases h
  | cons x r =>
    show (low x ∧ (r ++ [c]).length ≤ 5 ∧ ∀ y ∈ r ++ [c], lod y) ↔ _
    constructor
    · rintro ⟨_, h1, h2⟩
      rw [List.length_append] at h1
      simp only [List.length_cons, List.length_nil] at h1 ⊢
      exact ⟨by omega, h2 c (by simp)⟩
    · rintro ⟨h1, h2⟩
      simp only [List.length_cons] at h1
      refine ⟨h.1, by rw [List.length_append]; simp; omega, fun y hy => ?_⟩
      rcases List.mem_append.mp hy with hy | hy
      · exact h.2.2 y hy
      · rw [List.mem_singleton.mp hy]; exact h2
theorem nm_dash {c : Nat} : ¬ nm ([45] ++ [c]) := by
  rintro ⟨h, _⟩
  have := h.1
  omega
/-! steps -/
theorem step_open {w : List Nat} {b n : Nat} (h : w ≠ []) : step ⟨w, b, n⟩ 40 = some ⟨[], b + 1, n + 1⟩ := by
  unfold step
  rw [if_pos ⟨rfl, h⟩]
theorem step_close {b n : Nat} (h : 0 < b) : step ⟨[], b, n⟩ 41 = some ⟨[], b - 1, n⟩ := by
  unfold step
  rw [if_neg (by simp), if_pos ⟨rfl, rfl, h⟩]
theorem step_first {c b n : Nat} (h : c = 45 ∨ low c) (hb : b < 13) (hn : n < 2000) : step ⟨[], b, n⟩ c = some ⟨[c], b, n⟩ := by
  have h1 : c ≠ 41 := by
    rcases h with rfl | h
    · omega
    · exact (low_ne h).2.1
  unfold step
  rw [if_neg (by simp), if_neg (by simp [h1]), if_pos ⟨rfl, by rw [nm_one]; exact h, hb, hn⟩]
theorem step_odd {c b n : Nat} (h : c ≠ 45) (h2 : ¬ low c) (h3 : c ≠ 41 ∨ b = 0) : step ⟨[], b, n⟩ c = none := by
  unfold step
  rw [if_neg (by simp), if_neg (by rintro ⟨h4, _, h5⟩; simp only at h5; rcases h3 with h3 | h3 <;> omega), if_neg (by rw [nm_one]; rintro ⟨_, h4 | h4, _⟩ <;> contradiction), if_neg (by simp)]
theorem step_full {c b n : Nat} (h : 13 ≤ b ∨ 2000 ≤ n) (h3 : c ≠ 41 ∨ b = 0) : step ⟨[], b, n⟩ c = none := by
  unfold step
  rw [if_neg (by simp), if_neg (by rintro ⟨h4, _, h5⟩; simp only at h5; rcases h3 with h3 | h3 <;> omega), if_neg (by rintro ⟨_, _, h4, h5⟩; rcases h with h | h <;> simp only at h4 h5 <;> omega), if_neg (by simp)]
theorem step_more {w : List Nat} {c b n : Nat} (hw : w ≠ []) (h : nm (w ++ [c])) : step ⟨w, b, n⟩ c = some ⟨w ++ [c], b, n⟩ := by
  have h1 := (lod_ne (nm_mem h (List.mem_append_right _ (List.mem_singleton.mpr rfl))))
  unfold step
  rw [if_neg (by rintro ⟨h2, _⟩; exact h1.1 h2), if_neg (by rintro ⟨_, h2, _⟩; exact hw h2), if_neg (by rintro ⟨h2, _⟩; exact hw h2), if_pos ⟨hw, h⟩]
theorem step_stop {w : List Nat} {c b n : Nat} (hw : w ≠ []) (h : ¬ nm (w ++ [c])) (h1 : c ≠ 40) : step ⟨w, b, n⟩ c = none := by
  unfold step
  rw [if_neg (by rintro ⟨h2, _⟩; exact h1 h2), if_neg (by rintro ⟨_, h2, _⟩; exact hw h2), if_neg (by rintro ⟨h2, _⟩; exact hw h2), if_neg (by rintro ⟨_, h2⟩; exact h h2)]
theorem run_some {s t : S} {c i : Nat} {r : List Nat} (h : step s c = some t) : run s i (c :: r) = run t (i + 1) r := by
  show (match step s c with | some t => run t (i + 1) r | none => some i) = _
  rw [h]
theorem run_none {s : S} {c i : Nat} {r : List Nat} (h : step s c = none) : run s i (c :: r) = some i := by
  show (match step s c with | some t => run t (i + 1) r | none => some i) = _
  rw [h]
/-- the rest of a name -/
theorem run_name : ∀ (m w : List Nat) (b n i : Nat) (r : List Nat), nm w → nm (w ++ m) → run ⟨w, b, n⟩ i (m ++ r) = run ⟨w ++ m, b, n⟩ (i + m.length) r
  | [], w, b, n, i, r, _, _ => by rw [List.append_nil]; rfl
  | c :: m, w, b, n, i, r, hw, h => by
    have e : w ++ c :: m = (w ++ [c]) ++ m := by rw [List.append_assoc]; rfl
    have h1 : nm (w ++ [c]) := by
      rw [nm_snoc hw]
      refine ⟨?_, nm_mem h (by simp)⟩
      cases w with
      | nil => cases hw
      | cons x t =>
        have := h.2.1
        simp at this ⊢
        omega
    rw [List.cons_append, run_some (step_more (nm_ne hw) h1), run_name m (w ++ [c]) b n (i + 1) r h1 (e ▸ h), e]
    congr 1
    simp
    omega
/-- a deed, up to its bracket -/
theorem run_deed {d : List Nat} {b n i : Nat} {r : List Nat} (h : okd d) (hb : b < 13) (hn : n < 2000) : run ⟨[], b, n⟩ i (d ++ r) = run ⟨d, b, n⟩ (i + d.length) r := by
  rcases h with rfl | h
  · exact run_some (step_first (.inl rfl) hb hn)
  · cases d with
    | nil => cases h
    | cons c m =>
      rw [List.cons_append, run_some (step_first (.inr h.1) hb hn), run_name m [c] b n (i + 1) r (nm_one.mpr h.1) h]
      congr 1
      simp
      omega
theorem run_tx : ∀ (f : F) (b n i : Nat) (r : List Nat), f.good → b + f.dep ≤ 13 → n + f.cnt ≤ 2000 → run ⟨[], b, n⟩ i (f.tx ++ r) = run ⟨[], b, n + f.cnt⟩ (i + f.tx.length) r
  | .nil, b, n, i, r, _, _, _ => rfl
  | .cons d s t, b, n, i, r, hg, hb, hn => by
    obtain ⟨h1, h2, h3⟩ := hg
    simp only [F.dep, F.cnt] at hb hn
    have e : (F.cons d s t).tx ++ r = d ++ 40 :: (s.tx ++ 41 :: (t.tx ++ r)) := by simp [F.tx]
    rw [e, run_deed h1 (by omega) (by omega), run_some (step_open (okd_ne h1)), run_tx s _ _ _ _ h2 (by omega) (by omega), run_some (step_close (by omega)), run_tx t _ _ _ _ h3 (by omega) (by omega)]
    simp only [F.cnt, F.tx, List.length_append, List.length_cons]
    congr 1
    · congr 1
      omega
    · omega
theorem fault_tx {f : F} (h : f.good) (hb : f.dep ≤ 13) (hn : f.cnt ≤ 2000) : fault f.tx = none := by
  have := run_tx f 0 0 0 [] h (by omega) (by omega)
  rw [List.append_nil] at this
  rw [fault, this]
  rfl
/-! a text tells its tree -/
theorem cut_at {c : Nat} : ∀ (d e x y : List Nat), c ∉ d → c ∉ e → d ++ c :: x = e ++ c :: y → d = e ∧ x = y
  | [], [], x, y, _, _, h => ⟨rfl, by simpa using h⟩
  | [], a :: e, x, y, _, h2, h => by
    simp only [List.nil_append, List.cons_append, List.cons.injEq] at h
    exact absurd (by rw [h.1]; exact List.mem_cons_self) h2
  | a :: d, [], x, y, h1, _, h => by
    simp only [List.nil_append, List.cons_append, List.cons.injEq] at h
    exact absurd (by rw [← h.1]; exact List.mem_cons_self) h1
  | a :: d, b :: e, x, y, h1, h2, h => by
    simp only [List.cons_append, List.cons.injEq] at h
    obtain ⟨h3, h4⟩ := cut_at d e x y (fun m => h1 (List.mem_cons_of_mem _ m)) (fun m => h2 (List.mem_cons_of_mem _ m)) h.2
    exact ⟨by rw [h.1, h3], h4⟩
/-- what cannot stand at a bracket that closes, or at the end -/
theorem tx_pre : ∀ (f g : F) (x y : List Nat), f.good → g.good → (x = [] ∨ ∃ z, x = 41 :: z) → (y = [] ∨ ∃ z, y = 41 :: z) → f.tx ++ x = g.tx ++ y → f = g ∧ x = y
  | .nil, .nil, x, y, _, _, _, _, h => ⟨rfl, h⟩
  | .nil, .cons d s r, x, y, _, hg, hx, _, h => by
    exfalso
    have e : x = d ++ 40 :: (s.tx ++ 41 :: (r.tx ++ y)) := by simpa [F.tx] using h
    have hd := hg.1
    cases d with
    | nil => exact okd_ne hd rfl
    | cons c d =>
      rcases hx with rfl | ⟨z, rfl⟩
      · cases e
      · have e2 : (41 : Nat) = c := (List.cons.inj e).1
        exact (okd_mem hd List.mem_cons_self).2 e2.symm
  | .cons d s r, .nil, x, y, hg, _, _, hy, h => by
    exfalso
    have e : y = d ++ 40 :: (s.tx ++ 41 :: (r.tx ++ x)) := by simpa [F.tx] using h.symm
    have hd := hg.1
    cases d with
    | nil => exact okd_ne hd rfl
    | cons c d =>
      rcases hy with rfl | ⟨z, rfl⟩
      · cases e
      · have e2 : (41 : Nat) = c := (List.cons.inj e).1
        exact (okd_mem hd List.mem_cons_self).2 e2.symm
  | .cons d s r, .cons e t u, x, y, hf, hg, hx, hy, h => by
    have h' : d ++ 40 :: (s.tx ++ 41 :: (r.tx ++ x)) = e ++ 40 :: (t.tx ++ 41 :: (u.tx ++ y)) := by simpa [F.tx] using h
    obtain ⟨h1, h2⟩ := cut_at d e _ _ (fun m => (okd_mem hf.1 m).1 rfl) (fun m => (okd_mem hg.1 m).1 rfl) h'
    obtain ⟨h3, h4⟩ := tx_pre s t _ _ hf.2.1 hg.2.1 (.inr ⟨_, rfl⟩) (.inr ⟨_, rfl⟩) h2
    obtain ⟨h5, h6⟩ := tx_pre r u x y hf.2.2 hg.2.2 hx hy (List.cons.inj h4).2
    exact ⟨by rw [h1, h3, h5], h6⟩
theorem tx_inj {f g : F} (hf : f.good) (hg : g.good) (h : f.tx = g.tx) : f = g :=
  (tx_pre f g [] [] hf hg (.inl rfl) (.inl rfl) (by rw [h])).1
/-! sizes -/
theorem tx_len : ∀ {f : F}, f.good → f.tx.length ≤ 8 * f.cnt
  | .nil, _ => Nat.le_refl _
  | .cons d s r, h => by
    have h1 := okd_len h.1
    have h2 := tx_len h.2.1
    have h3 := tx_len h.2.2
    simp only [F.tx, F.cnt, List.length_append, List.length_cons]
    omega
theorem len_cnt : ∀ f : F, f.len ≤ f.cnt
  | .nil => Nat.le_refl _
  | .cons d s r => by
    have := len_cnt r
    simp only [F.len, F.cnt]
    omega
theorem len_ps : ∀ f : F, f.ps.length = f.len
  | .nil => rfl
  | .cons d s r => by rw [F.ps, List.length_cons, len_ps r, F.len, Nat.add_comm]
theorem of_ps : ∀ f : F, F.of f.ps = f
  | .nil => rfl
  | .cons d s r => by rw [F.ps, F.of, of_ps r]
theorem ps_of : ∀ l, (F.of l).ps = l
  | [] => rfl
  | (d, s) :: r => by rw [F.of, F.ps, ps_of r]
theorem snoc_ps : ∀ (f : F) (d : List Nat) (s : F), (f.snoc d s).ps = f.ps ++ [(d, s)]
  | .nil, _, _ => rfl
  | .cons e t r, d, s => by rw [F.snoc, F.ps, snoc_ps r, F.ps]; rfl
theorem tx_ps : ∀ f : F, f.tx = (f.ps.map fun p => p.1 ++ 40 :: (p.2.tx ++ [41])).flatten
  | .nil => rfl
  | .cons d s r => by
    rw [F.tx, F.ps, List.map_cons, List.flatten_cons, ← tx_ps r]
    simp
theorem cnt_ps : ∀ f : F, f.cnt = (f.ps.map fun p => 1 + p.2.cnt).sum
  | .nil => rfl
  | .cons d s r => by rw [F.cnt, F.ps, List.map_cons, List.sum_cons, ← cnt_ps r]
theorem cnt_ps2 : ∀ f : F, f.cnt = f.len + (f.ps.map fun p => p.2.cnt).sum
  | .nil => rfl
  | .cons d s r => by rw [F.cnt, F.ps, List.map_cons, List.sum_cons, cnt_ps2 r, F.len]; simp only; omega
theorem dep_mem : ∀ {f : F} {p : List Nat × F}, p ∈ f.ps → 1 + p.2.dep ≤ f.dep
  | .nil, _, h => by cases h
  | .cons d s r, p, h => by
    rw [F.dep]
    rcases List.mem_cons.mp h with rfl | h
    · exact Nat.le_max_left _ _
    · exact Nat.le_trans (dep_mem h) (Nat.le_max_right _ _)
theorem cnt_mem {f : F} {p : List Nat × F} (h : p ∈ f.ps) : 1 + p.2.cnt ≤ f.cnt := by
  have : ∀ (l : List (List Nat × F)), p ∈ l → 1 + p.2.cnt ≤ (l.map fun p => 1 + p.2.cnt).sum := by
    intro l hl
    induction l with
    | nil => cases hl
    | cons q l ih =>
      rw [List.map_cons, List.sum_cons]
      rcases List.mem_cons.mp hl with rfl | hl
      · omega
      · have := ih hl; omega
  rw [cnt_ps f]
  exact this _ h
theorem good_mem : ∀ {f : F} {p : List Nat × F}, f.good → p ∈ f.ps → okd p.1 ∧ p.2.good
  | .nil, _, _, h => by cases h
  | .cons d s r, p, hg, h => by
    rcases List.mem_cons.mp h with rfl | h
    · exact ⟨hg.1, hg.2.1⟩
    · exact good_mem hg.2.2 h
theorem dep_of : ∀ {f : F} {n : Nat}, (∀ p ∈ f.ps, 1 + p.2.dep ≤ n) → f.dep ≤ n
  | .nil, _, _ => Nat.zero_le _
  | .cons d s r, n, h => by
    rw [F.dep]
    exact Nat.max_le.mpr ⟨h (d, s) List.mem_cons_self, dep_of fun p hp => h p (List.mem_cons_of_mem _ hp)⟩
theorem snoc_tx : ∀ (f : F) (d : List Nat) (s : F), (f.snoc d s).tx = f.tx ++ (d ++ 40 :: (s.tx ++ [41]))
  | .nil, d, s => by simp [F.snoc, F.tx]
  | .cons e t r, d, s => by simp [F.snoc, F.tx, snoc_tx r]
theorem snoc_good : ∀ {f : F} {d : List Nat} {s : F}, f.good → okd d → s.good → (f.snoc d s).good
  | .nil, _, _, _, h1, h2 => ⟨h1, h2, trivial⟩
  | .cons e t r, _, _, h, h1, h2 => ⟨h.1, h.2.1, snoc_good h.2.2 h1 h2⟩
theorem snoc_dep : ∀ (f : F) (d : List Nat) (s : F), (f.snoc d s).dep = max f.dep (1 + s.dep)
  | .nil, d, s => by simp [F.snoc, F.dep]
  | .cons e t r, d, s => by
    rw [F.snoc, F.dep, F.dep, snoc_dep r]
    omega
theorem snoc_cnt : ∀ (f : F) (d : List Nat) (s : F), (f.snoc d s).cnt = f.cnt + (1 + s.cnt)
  | .nil, d, s => by simp [F.snoc, F.cnt]
  | .cons e t r, d, s => by
    rw [F.snoc, F.cnt, F.cnt, snoc_cnt r]
    omega
end Tw
namespace K01
open PySem PySem.Spec PyProof.Rows L2 TL HotExc Tw
/-! ### more readings that simp can take -/
def rSumN (K : PySem.W.Frag) (vs : List V) (H : Hp) (Q : VK) : Prop := ∃ a, vs = [V.ref a] ∧ ∃ ns : List Int, SqL K H a (ns.map V.int) ∧ Q (.int ns.sum) H
def rMaxN (K : PySem.W.Frag) (vs : List V) (H : Hp) (Q : VK) : Prop := ∃ a, vs = [V.ref a] ∧ ∃ ns : List Int, SqL K H a (ns.map V.int) ∧ 0 < ns.length ∧ ∀ m, m ∈ ns → (∀ y, y ∈ ns → y ≤ m) → Q (.int m) H
theorem call_sumK {X : Cx} {K : PySem.W.Frag} (h : X.K = K := by rfl) (hc : X.calm = true := by rfl) : CallR X (.builtin "sum") (rSumN K) := h ▸ callR_mono (cr_sum hc) fun _ _ _ ⟨a, e, ns, h, q⟩ => ⟨a, ns, e, h, q⟩
theorem call_maxK {X : Cx} {K : PySem.W.Frag} (h : X.K = K := by rfl) (hc : X.calm = true := by rfl) : CallR X (.builtin "max") (rMaxN K) := h ▸ callR_mono (cr_max hc) fun _ _ _ ⟨a, e, ns, h, h2, q⟩ => ⟨a, ns, e, h, h2, q⟩
section
variable {te : TE} {vs : List Nat} {σ : L2.St} {H1 : Hp} {D : Addr} {Qd : Hp → Prop}
/-- a comprehension over pairs -/
theorem r_lcP {K : PySem.W.Frag} {a : Addr} {j1 j2 : Nat} (xs : List V) (Pv : Nat → Hp → Prop) (h0 : Pv 0 (L2.upd H1 D (.lst []))) (hl : ∀ i H, i ≤ xs.length → Pv i H → SqL K H a xs)
    (hs : ∀ i x H, xs[i]? = some x → Pv i H → ∃ t u v, x = .ref t ∧ SqT K H t [u, v] ∧ wipe (((wipe σ vs).set j1 (some u)).set j2 (some v)) vs = wipe σ vs ∧ ∀ N : VK, (∀ y H4 got, H4 D = some (.lst got) → got.length < sizeLine → Pv (i + 1) (L2.upd H4 D (.lst (got ++ [y]))) → N y H4) → te (((wipe σ vs).set j1 (some u)).set j2 (some v)) H N) (hd : ∀ H, Pv xs.length H → Qd H) :
    LcT (Itl K a) (gTup K 2 (gCons (gName j1) (gCons (gName j2) gNil))) tYes te vs σ H1 D Qd :=
  lc_list (g := gTup K 2 (gCons (gName j1) (gCons (gName j2) gNil))) Pv h0 hl (fun i x H hx hp => by
    obtain ⟨t, u, v, e, h1, h2, h3⟩ := hs i x H hx hp
    refine ⟨t, [u, v], e, h1, rfl, u, [v], rfl, v, [], rfl, rfl, h2, ?_⟩
    simp only [tYes, if_pos]
    exact h3 _ fun y H4 got g1 g2 g3 => ⟨got, g1, g2, g3⟩) hd
end
/-! ### texts and lists of signs -/
def S (l : List Nat) : Str := ⟨l.toArray⟩
theorem tl_S (l : List Nat) : tl (S l) = l := rfl
theorem S_tl (z : Str) : S (tl z) = z := by
  cases z with
  | mk c => simp [S]
theorem S_len (l : List Nat) : (S l).length = l.length := by rw [len_tl, tl_S]
theorem tl_inj {x y : Str} (h : tl x = tl y) : x = y := by rw [← S_tl x, ← S_tl y, h]
theorem S_app (l m : List Nat) : S l ++ S m = S (l ++ m) := tl_inj (by rw [tl_append, tl_S, tl_S, tl_S])
theorem S_inj {l m : List Nat} (h : S l = S m) : l = m := by rw [← tl_S l, ← tl_S m, h]
theorem S_eq {l m : List Nat} : decide (S l = S m) = decide (l = m) := decide_eq_decide.mpr ⟨S_inj, fun e => by rw [e]⟩
theorem S_emp : Str.ofString "" = S [] := tl_inj (by decide +kernel)
theorem S_op : Str.ofString "(" = S [40] := tl_inj (by decide +kernel)
theorem S_cl : Str.ofString ")" = S [41] := tl_inj (by decide +kernel)
theorem S_da : Str.ofString "-" = S [45] := tl_inj (by decide +kernel)
theorem joinL_nil (ps : List (List Nat)) : joinL [] ps = ps.flatten := by
  induction ps with
  | nil => rfl
  | cons p ps ih =>
    cases ps with
    | nil => simp [joinL]
    | cons q r =>
      show p ++ ([] ++ joinL [] (q :: r)) = _
      rw [ih, List.nil_append, List.flatten_cons (l := p)]
theorem join_S (ws : List (List Nat)) : Txt.join (S []) (ws.map S) = S ws.flatten := tl_inj (by
  rw [join_eq, tl_join, tl_S, tl_S, List.map_map, ← joinL_nil]
  congr 1
  exact (List.map_congr_left (g := id) fun l _ => tl_S l).trans (List.map_id ws))
/-! ### trees as data -/
def Fd : F → List Dat
  | .nil => []
  | .cons d s r => .tup [.str (S d), .lst (Fd s)] :: Fd r
def tw (p : List Nat × F) : Dat := .tup [.str (S p.1), .lst (Fd p.2)]
theorem Fd_ps : ∀ f : F, Fd f = f.ps.map tw
  | .nil => rfl
  | .cons d s r => by rw [Fd, F.ps, List.map_cons, Fd_ps r]; rfl
theorem Fd_len (f : F) : (Fd f).length = f.len := by rw [Fd_ps, List.length_map, len_ps]
theorem Fd_dep : ∀ f : F, depL (Fd f) ≤ 2 * f.dep
  | .nil => Nat.le_refl _
  | .cons d s r => by
    have h1 := Fd_dep s
    have h2 := Fd_dep r
    simp only [Fd, depL, Dat.dep, F.dep]
    omega
mutual
theorem At.live {H : Hp} {A : Addr → Prop} : ∀ (d : Dat) (v : V), At H A d v → At H (fun p => A p ∧ H p ≠ none) d v
  | .non, _, h => h
  | .bl _, _, h => h
  | .int _, _, h => h
  | .str _, _, h => h
  | .lst l, _, ⟨a, xs, e, ha, hx, hl, hr⟩ => ⟨a, xs, e, ⟨ha, by rw [hx]; simp⟩, hx, hl, AtL.live l xs hr⟩
  | .tup l, _, ⟨a, xs, e, ha, hx, hl, hr⟩ => ⟨a, xs, e, ⟨ha, by rw [hx]; simp⟩, hx, hl, AtL.live l xs hr⟩
theorem AtL.live {H : Hp} {A : Addr → Prop} : ∀ (l : List Dat) (xs : List V), AtL H A l xs → AtL H (fun p => A p ∧ H p ≠ none) l xs
  | [], _, h => h
  | d :: l, _, ⟨v, r, e, h1, h2⟩ => ⟨v, r, e, At.live d v h1, AtL.live l r h2⟩
end
/-- a tree at a value -/
def TrA (H : Hp) (A : Addr → Prop) (f : F) (v : V) : Prop := At H A (.lst (Fd f)) v
abbrev Tr (H : Hp) (f : F) (v : V) : Prop := TrA H (fun _ => True) f v
theorem TrA.any {H : Hp} {A : Addr → Prop} {f : F} {v : V} (h : TrA H A f v) : Tr H f v := At.mono (fun _ _ => trivial) (fun _ _ _ h => h) _ _ h
theorem TrA.keep {H H' : Hp} {A : Addr → Prop} {f : F} {v : V} (h : TrA H A f v) (k : Keeps H H') : TrA H' A f v := At.mono (fun _ h => h) (fun p o _ h => k p o h) _ _ h
theorem Tr.but {H H' : Hp} {x : Addr} {y : HO} {f : F} {v : V} {A : Addr → Prop} (h : TrA H A f v) (hn : ∀ p, A p → p ≠ x) (k : But x H H') : TrA H' A f v := At.mono (fun _ h => h) (fun p o hp h => k p o (hn p hp) h) _ _ h
/-- the pair of a tree's item -/
def PrA (H : Hp) (A : Addr → Prop) (p : List Nat × F) (x : V) : Prop := ∃ t y, x = .ref t ∧ A t ∧ H t = some (.tup [.str (S p.1), y]) ∧ TrA H A p.2 y
theorem pr_of {H : Hp} {A : Addr → Prop} {p : List Nat × F} {x : V} (h : At H A (tw p) x) : PrA H A p x := by
  obtain ⟨t, xs, rfl, ha, hx, _, v, r, rfl, hv, y, r2, rfl, hy, hr⟩ := h
  have hv : v = .str (S p.1) := hv
  have hr : r2 = [] := hr
  subst hv hr
  exact ⟨t, y, rfl, ha, hx, hy⟩
theorem pr_to {H : Hp} {A : Addr → Prop} {p : List Nat × F} {x : V} (h : PrA H A p x) : At H A (tw p) x := by
  obtain ⟨t, y, rfl, ha, hx, hy⟩ := h
  exact ⟨t, _, rfl, ha, hx, Nat.le_of_ble_eq_true rfl, _, _, rfl, rfl, y, [], rfl, hy, rfl⟩
theorem TrA.get {H : Hp} {A : Addr → Prop} {f : F} {v : V} (h : TrA H A f v) : ∃ (a : Addr) (xs : List V), v = .ref a ∧ A a ∧ H a = some (.lst xs) ∧ xs.length ≤ 1000000 ∧ xs.length = f.len ∧ ∀ (i : Nat) p, f.ps[i]? = some p → ∃ x, xs[i]? = some x ∧ PrA H A p x := by
  obtain ⟨a, xs, e, ha, hx, hl, hr⟩ := h
  refine ⟨a, xs, e, ha, hx, hl, by rw [hr.length, Fd_len], fun i p hp => ?_⟩
  obtain ⟨x, h1, h2⟩ := AtL.get _ xs i (tw p) hr (by rw [Fd_ps, List.getElem?_map, hp]; rfl)
  exact ⟨x, h1, pr_of h2⟩
theorem TrA.inv {H : Hp} {A : Addr → Prop} {f : F} {v : V} (h : TrA H A f v) : ∃ (a : Addr) (xs : List V), v = .ref a ∧ A a ∧ H a = some (.lst xs) ∧ xs.length ≤ 1000000 ∧ xs.length = f.len ∧ ∀ (i : Nat) x, xs[i]? = some x → ∃ p, f.ps[i]? = some p ∧ PrA H A p x := by
  obtain ⟨a, xs, e, ha, hx, hl, hn, hg⟩ := h.get
  refine ⟨a, xs, e, ha, hx, hl, hn, fun i x hi => ?_⟩
  have l1 : i < f.ps.length := by
    rw [len_ps, ← hn]
    exact lt_of_get hi
  obtain ⟨y, h1, h2⟩ := hg i _ (List.getElem?_eq_getElem l1)
  rw [hi] at h1
  cases h1
  exact ⟨_, List.getElem?_eq_getElem l1, h2⟩
theorem mem_get {α : Type} {l : List α} {i : Nat} {x : α} (h : l[i]? = some x) : x ∈ l := List.mem_of_getElem? h
theorem sum_take {α : Type} {l : List α} {i : Nat} {x : α} (h : l[i]? = some x) : l.take (i + 1) = l.take i ++ [x] := by rw [List.take_add_one, h]; rfl
theorem tx_mem {f : F} {p : List Nat × F} (h : p ∈ f.ps) : p.1.length + p.2.tx.length + 2 ≤ f.tx.length := by
  have : ∀ l : List (List Nat × F), p ∈ l → p.1.length + p.2.tx.length + 2 ≤ (l.map fun p => p.1 ++ 40 :: (p.2.tx ++ [41])).flatten.length := by
    intro l hl
    induction l with
    | nil => cases hl
    | cons q l ih =>
      rw [List.map_cons, List.flatten_cons, List.length_append]
      rcases List.mem_cons.mp hl with rfl | hl
      · simp only [List.length_append, List.length_cons, List.length_nil]
        omega
      · have := ih hl; omega
  rw [tx_ps f]
  exact this _ h
theorem len_tx : ∀ f : F, f.len ≤ f.tx.length
  | .nil => Nat.le_refl _
  | .cons d s r => by
    have := len_tx r
    simp only [F.len, F.tx, List.length_append, List.length_cons]
    omega
/-- a def of one tree that tells a thing of it -/
def spTr (n : Nat) (R : F → V) : Sp := fun vs H Q _ => ∃ v f, vs = [v] ∧ Tr H f v ∧ f.dep ≤ n ∧ f.tx.length ≤ 1000000 ∧ ∀ H', Keeps H H' → Q (R f) H'
end K01
namespace K01
open PySem PySem.Spec PyProof.Rows L2 TL HotExc Tw
local macro_rules | `(tactic| walk_at "rd") => `(tactic| simp only [start1, wipe, isR, isBool, isInt, isStr, isLst, isTup, tAsg, gName, gSub, tVar, tC, tOp, tUn, tTest, tIfS, tRet, tRetN, tDrop, tB, tAnd, tOr, tNot, tAndV, tOrV, tNotV, tIf, tCB, tCons, tNil, tNext, tCall, tBM, tTup, tLst, rU, rInW, rNinW, Int.reduceNeg, tG, tG2, sP, tDisp, tPairs, tCallS, tCallSD, tCallT, StX.tStar, tCallK, tCallKS, rTupOf, tDrop, rI0, rI, rEq, rNe, scal, forR_eq, forR2_eq, forS_eq, forL_eq, lcT_eq, lcRT_eq, lcS_eq, rLenX, rLenS, rListOf, tRevL, rMulS, rRepL, rCatL, rSumN, rMaxN, tBM0, rPop, tAug, ipI,  tPart, tNoPart, CwR.tReplC, rAllK, rInSg, rNinSg, sgn_inj, rAddS, rInSt, tChain, tM1, tM0, rSplitN, rJoinN, exists_eq, rIntI, rIntB, rIntS, rStrI, rAbs, rOrd, rMin, rMax, rIxL, rIxX, rSetL, rAppend, rIxS, rSlS, rSlL, tSl, List.map_cons, List.map_nil, List.replicate_succ, List.replicate_zero, List.length_cons, List.length_nil, Nat.reduceSub, Nat.reduceAdd, Nat.zero_add, Nat.sub_self, List.getElem?_cons_zero, List.getElem?_cons_succ, List.set_cons_zero, List.set_cons_succ, List.append_nil, List.nil_append, List.cons_append, Option.some.injEq, not_true_eq_false, reduceCtorEq, exists_eq_left', exists_eq_left, exists_eq', exists_and_left, exists_and_right, V.int.injEq, V.str.injEq, V.bl.injEq, V.ref.injEq, List.cons.injEq, and_true, true_and, and_assoc, decide_eq_true_eq, Bool.not_eq_true', decide_eq_false_iff_not, ite_true, ite_false, if_true, if_false, Bool.not_true, Bool.not_false, Bool.false_eq_true, eq_self_iff_true, reduceIte, ne_eq, Int.reduceEq, not_false_eq_true])
local macro_rules | `(tactic| walk_at "rt") => `(tactic| try walk_at "rd")
local macro_rules | `(tactic| walk_at "st") => `(tactic| (walk_at "rt"; refine r_seq ?_; walk_at "rt"))
local macro_rules | `(tactic| walk_at "hp") => `(tactic| first | assumption | exact upd_same | (rw [upd_ne (by assumption)]; walk_at "hp"))
local macro_rules | `(tactic| walk_at "ex1") => `(tactic| ((with_reducible refine Exists.intro ?w (And.intro ?hx ?_)); (case hx => first | exact sq_of (by walk_at "hp") | exact .inl (sq_of (by walk_at "hp")) | exact rfl | (show _ = some (HO.lst _); walk_at "hp"))))
local macro_rules | `(tactic| walk_at "ex") => `(tactic| repeat (first | walk_at "ex1" | walk_at "rd"))
abbrev s_writetree : Stmt := topS 10
theorem sc_writetree : FnScope ["tree", "deed", "answer"] ["tree"] (defScope s_writetree) := ⟨rfl, rfl, rfl, by decide +kernel, rfl, by decide +kernel, by decide +kernel⟩
abbrev s_treepairs : Stmt := topS 12
theorem sc_treepairs : FnScope ["tree", "_", "answer"] ["tree"] (defScope s_treepairs) := ⟨rfl, rfl, rfl, by decide +kernel, rfl, by decide +kernel, by decide +kernel⟩
abbrev s_treedepth : Stmt := topS 13
theorem sc_treedepth : FnScope ["tree", "_", "answer"] ["tree"] (defScope s_treedepth) := ⟨rfl, rfl, rfl, by decide +kernel, rfl, by decide +kernel, by decide +kernel⟩
abbrev s_treetext : Stmt := topS 29
theorem sc_treetext : FnScope ["tree", "pair"] ["tree"] (defScope s_treetext) := ⟨rfl, rfl, rfl, by decide +kernel, rfl, by decide +kernel, by decide +kernel⟩
abbrev s_Ltreepairs : Stmt := topS 30
theorem sc_Ltreepairs : FnScope ["tree", "pair"] ["tree"] (defScope s_Ltreepairs) := ⟨rfl, rfl, rfl, by decide +kernel, rfl, by decide +kernel, by decide +kernel⟩
abbrev s_treedeep : Stmt := topS 31
theorem sc_treedeep : FnScope ["tree", "pair"] ["tree"] (defScope s_treedeep) := ⟨rfl, rfl, rfl, by decide +kernel, rfl, by decide +kernel, by decide +kernel⟩
def spT (R : F → V) : Nat → Sp
  | 0 => fun _ _ _ _ => False
  | n + 1 => spTr n R
theorem spT_sub {R : F → V} {n : Nat} {f : F} {p : List Nat × F} {v : V} {H : Hp} {Q : VK} {E : XK} (h : f.dep ≤ n) (hp : p ∈ f.ps) (ht : Tr H p.2 v) (hl : f.tx.length ≤ 1000000) (q : ∀ H', Keeps H H' → Q (R p.2) H') : spT R n [v] H Q E := by
  have h1 := dep_mem hp
  have h2 := tx_mem hp
  cases n with
  | zero => omega
  | succ n => exact ⟨v, p.2, rfl, ht, by omega, by omega, q⟩
section
variable {te : TE} {vs : List Nat} {σ : L2.St} {H1 : Hp} {D : Addr} {Qd : Hp → Prop}
theorem lcTrP {K : PySem.W.Frag} {a : Addr} {j1 j2 : Nat} {f : F} {xs : List V} (R : List Nat × F → V) (hx : H1 a = some (.lst xs)) (hn : xs.length = f.len) (hm : xs.length ≤ 1000000) (hg : ∀ (i : Nat) p, f.ps[i]? = some p → ∃ x, xs[i]? = some x ∧ PrA H1 (fun _ => True) p x) (nD : H1 D = none)
    (hw : ∀ u v, wipe (((wipe σ vs).set j1 (some u)).set j2 (some v)) vs = wipe σ vs)
    (hs : ∀ p H y, p ∈ f.ps → Tr H p.2 y → Keeps H1 H → ∀ N : VK, (∀ H4, Keeps H H4 → N (R p) H4) → te (((wipe σ vs).set j1 (some (.str (S p.1)))).set j2 (some y)) H N)
    (hd : ∀ H, Keeps H1 H → H D = some (.lst (f.ps.map R)) → Qd H) : LcT (Itl K a) (gTup K 2 (gCons (gName j1) (gCons (gName j2) gNil))) tYes te vs σ H1 D Qd := by
  refine r_lcP xs (fun i H => Keeps H1 H ∧ H D = some (.lst ((f.ps.take i).map R))) ⟨Keeps.new nD, upd_same⟩ (fun i H _ h => sq_of (h.1 _ _ hx)) ?_ (fun H h => ?_)
  · rintro i x H hi ⟨kp, hD⟩
    have hl : i < f.ps.length := by rw [len_ps, ← hn]; exact lt_of_get hi
    have hp := List.getElem?_eq_getElem hl
    obtain ⟨x', h1, t, y, rfl, _, ht, hy⟩ := hg i _ hp
    rw [hi] at h1
    cases h1
    refine ⟨t, _, y, rfl, .inl (.inl (kp _ _ ht)), hw _ _, fun N kk => hs _ H y (mem_get hp) (hy.keep kp) kp N fun H4 k4 => kk _ _ _ (k4 _ _ hD) ?_ ?_⟩
    · rw [List.length_map]; exact size_ok (Nat.le_trans (List.length_take_le' _ _) (by rw [len_ps]; omega))
    · refine ⟨(kp.trans k4).put nD, ?_⟩
      rw [upd_same, sum_take hp, List.map_append]
      rfl
  · obtain ⟨kp, hD⟩ := h
    rw [hn, ← len_ps, List.take_length] at hD
    exact hd H kp hD
theorem lcTr1 {K : PySem.W.Frag} {a : Addr} {j : Nat} {f : F} {xs : List V} (R : List Nat × F → V) (hx : H1 a = some (.lst xs)) (hn : xs.length = f.len) (hm : xs.length ≤ 1000000) (hg : ∀ (i : Nat) p, f.ps[i]? = some p → ∃ x, xs[i]? = some x ∧ PrA H1 (fun _ => True) p x) (nD : H1 D = none)
    (hw : ∀ x, wipe ((wipe σ vs).set j (some x)) vs = wipe σ vs)
    (hs : ∀ p H t y, p ∈ f.ps → H t = some (.tup [.str (S p.1), y]) → Tr H p.2 y → Keeps H1 H → ∀ N : VK, (∀ H4, Keeps H H4 → N (R p) H4) → te ((wipe σ vs).set j (some (.ref t))) H N)
    (hd : ∀ H, Keeps H1 H → H D = some (.lst (f.ps.map R)) → Qd H) : LcT (Itl K a) (gName j) tYes te vs σ H1 D Qd := by
  refine r_lcTL xs (fun i H => Keeps H1 H ∧ H D = some (.lst ((f.ps.take i).map R))) hw ⟨Keeps.new nD, upd_same⟩ (fun i H _ h => sq_of (h.1 _ _ hx)) ?_ (fun H h => ?_)
  · rintro i x H hi ⟨kp, hD⟩
    have hl : i < f.ps.length := by rw [len_ps, ← hn]; exact lt_of_get hi
    have hp := List.getElem?_eq_getElem hl
    obtain ⟨x', h1, t, y, rfl, _, ht, hy⟩ := hg i _ hp
    rw [hi] at h1
    cases h1
    refine fun N kk => hs _ H t y (mem_get hp) (kp _ _ ht) (hy.keep kp) kp N fun H4 k4 => kk _ _ _ (k4 _ _ hD) ?_ ?_
    · rw [List.length_map]; exact size_ok (Nat.le_trans (List.length_take_le' _ _) (by rw [len_ps]; omega))
    · refine ⟨(kp.trans k4).put nD, ?_⟩
      rw [upd_same, sum_take hp, List.map_append]
      rfl
  · obtain ⟨kp, hD⟩ := h
    rw [hn, ← len_ps, List.take_length] at hD
    exact hd H kp hD
end
theorem em_app (x : Str) : Str.empty ++ x = x := tl_inj (by rw [tl_append]; rfl)
def twx (p : List Nat × F) : List Nat := p.1 ++ 40 :: (p.2.tx ++ [41])
theorem join_ps (f : F) : Txt.join (S []) ((f.ps.map twx).map S) = S f.tx := by rw [join_S, tx_ps f]; rfl
theorem sum_len (ls : List (List Nat)) : ((ls.map S).map (·.length)).sum = ls.flatten.length := by
  induction ls with
  | nil => rfl
  | cons l ls ih => rw [List.map_cons, List.map_cons, List.sum_cons, ih, S_len, List.flatten_cons, List.length_append]
def icnt (f : F) : Int := f.cnt
def idep (f : F) : Int := f.dep
theorem isum {α : Type} (g : α → Nat) : ∀ l : List α, (l.map fun p => ((g p : Nat) : Int)).sum = (((l.map g).sum : Nat) : Int)
  | [] => rfl
  | x :: l => by rw [List.map_cons, List.sum_cons, List.map_cons, List.sum_cons, isum g l]; omega
theorem cnt_sum (f : F) : (f.ps.map fun p => 1 + icnt p.2).sum = icnt f := by
  have e : (f.ps.map fun p => 1 + icnt p.2) = f.ps.map fun p => (((1 + p.2.cnt : Nat)) : Int) := List.map_congr_left fun p _ => by simp only [icnt]; omega
  rw [e, isum, icnt, cnt_ps f]
theorem cnt_sum2 (f : F) : ((f.len : Int) + (f.ps.map fun p => icnt p.2).sum) = icnt f := by
  have e := isum (fun p : List Nat × F => p.2.cnt) f.ps
  rw [show (f.ps.map fun p => icnt p.2) = f.ps.map fun p => ((p.2.cnt : Nat) : Int) from rfl, e, icnt, cnt_ps2 f]
  omega
theorem kp_put {H : Hp} {a z : Addr} {o x : HO} (h : H a = some o) (n : H z = none) : L2.upd H z x a = some o := Keeps.new n _ _ h
theorem PrA.keep {H H' : Hp} {A : Addr → Prop} {p : List Nat × F} {x : V} (h : PrA H A p x) (k : Keeps H H') : PrA H' A p x := by
  obtain ⟨t, y, e, ha, h1, h2⟩ := h
  exact ⟨t, y, e, ha, k _ _ h1, h2.keep k⟩
theorem imax {f : F} {m : Int} (h : m ∈ (0 : Int) :: f.ps.map fun p => 1 + idep p.2) (h2 : ∀ y, y ∈ ((0 : Int) :: f.ps.map fun p => 1 + idep p.2) → y ≤ m) : m = idep f := by
  have a1 : (m.toNat : Int) = m ∧ m.toNat ≤ f.dep := by
    have h0 := h2 0 List.mem_cons_self
    refine ⟨by omega, ?_⟩
    rcases List.mem_cons.mp h with rfl | h
    · simp
    · obtain ⟨p, hp, e⟩ := List.mem_map.mp h
      have := dep_mem hp
      simp only [idep] at e
      omega
  have a2 : f.dep ≤ m.toNat := dep_of fun p hp => by
    have := h2 (1 + idep p.2) (List.mem_cons_of_mem _ (List.mem_map.mpr ⟨p, hp, rfl⟩))
    simp only [idep] at this
    omega
  simp only [idep]
  omega
section
variable {P : Program} {w : World} {K : PySem.W.Frag} {mg : Str → Option Value} {base : Heap}
abbrev Rtx (f : F) : V := .str (S f.tx)
abbrev Rcn (f : F) : V := .int (icnt f)
abbrev Rdp (f : F) : V := .int (idep f)
theorem ok_writetree {f : Addr} {fd : FuncData} (B : Bi mg) (D : Dn K mg "write_tree" s_writetree ["tree"] f fd) (D_writetree : Dn K mg "write_tree" s_writetree ["tree"] f fd) (n : Nat)
    (G_writetree : FnOk P w K mg base CX0 (n + 1) f fd ["tree"] (spT Rtx n)) : FnOk P w K mg base CX0 (n + 2) f fd ["tree"] (spT Rtx (n + 1)) := by
  refine D.F.ok sc_writetree (fun vs H Q E h => ?_) (fun cdv A outer s H vs Q E hr h => ?_)
  · obtain ⟨v, f, rfl, _⟩ := h
    rfl
  · obtain ⟨v, f, rfl, ht, hd, hl, q⟩ := h
    refine ⟨_, (pss_one (ps_ret (pe_m1 PySem.F.slot_str_join PySem.F.type_str_join (mt_joinK (K := K)) pe_str (pe_lc (own := [("deed", 1), ("answer", 2)]) (g := gTup K 2 (gCons (gName 1) (gCons (gName 2) gNil))) (tt := tYes) (by rfl) sc_writetree.nd (pi_listK (K := K) (pv 0)) (blkOk_by (own := [("deed", 1), ("answer", 2)]) (N := ["tree", "deed", "answer"]) (sc := defScope s_writetree) (by decide +kernel)) (fun _ _ _ _ _ => pg_tup (by rfl) (pgs_cons (pg_name (i := 1) sc_writetree.nd rfl (Or.inl rfl)) (pgs_cons (pg_name (i := 2) sc_writetree.nd rfl (Or.inl rfl)) pgs_nil))) (fun _ _ _ _ _ => pts_nil) (fun _ _ _ _ _ => (pe_joined (PJ.cons (pe_fmt (pv 1)) (PJ.cons pe_str (PJ.cons (pe_fmt (pe_call G_writetree (hr.mono (by omega)) (by rfl) D_writetree.g D_writetree.F.kp D_writetree.b .nil pass0 (pa_cons (pv 2) pa_nil))) (PJ.cons pe_str PJ.nil)))))))))), ?_⟩
    obtain ⟨a, xs, rfl, _, hx, hm, hn, hg⟩ := ht.get
    walk_at "rt"
    refine ⟨⟨_, sq_of hx⟩, fun Dd nD => ?_⟩
    refine lcTrP (fun p => .str (S (twx p))) hx hn hm hg nD (fun _ _ => rfl) ?_ ?_
    · intro p H1 y hp hy k1 N kk
      have hlen := tx_mem hp
      simp only [tJs, tFmt, tVar, tC, tCall, tCons, tNil]
      refine ⟨_, rfl, .inl ⟨_, rfl, ?_, _, rfl, ?_, _, rfl, ?_, _, rfl, spT_sub hd hp hy hl fun H2 k2 => .inl ⟨_, rfl, ?_, _, rfl, ?_, _, rfl, ?_, ?_⟩⟩⟩
      all_goals simp only [em_app, S_op, S_cl, S_app, S_len, List.length_append, List.length_cons, List.length_nil]
      all_goals first | exact line_of (by omega) | simpa [twx] using kk H2 k2
    · intro H1 k1 hD
      refine ⟨(f.ps.map twx).map S, ?_, ?_, ?_⟩
      · rw [List.map_map, List.map_map]
        exact sq_of hD
      · rw [sum_len, S_emp, S_len, List.length_nil, Nat.mul_zero, Nat.add_zero]
        rw [tx_ps f] at hl
        exact Nat.le_trans hl (by decide)
      · rw [S_emp, join_ps]
        exact q _ k1
theorem ok_treetext {f : Addr} {fd : FuncData} (B : Bi mg) (D : Dn K mg "_law_tree_text" s_treetext ["tree"] f fd) (D_treetext : Dn K mg "_law_tree_text" s_treetext ["tree"] f fd) (n : Nat)
    (G_treetext : FnOk P w K mg base CX0 (n + 1) f fd ["tree"] (spT Rtx n)) : FnOk P w K mg base CX0 (n + 2) f fd ["tree"] (spT Rtx (n + 1)) := by
  refine D.F.ok sc_treetext (fun vs H Q E h => ?_) (fun cdv A outer s H vs Q E hr h => ?_)
  · obtain ⟨v, f, rfl, _⟩ := h
    rfl
  · obtain ⟨v, f, rfl, ht, hd, hl, q⟩ := h
    refine ⟨_, (pss_one (ps_ret (pe_m1 PySem.F.slot_str_join PySem.F.type_str_join (mt_joinK (K := K)) pe_str (pe_lc (own := [("pair", 1)]) (g := gName 1) (tt := tYes) (by rfl) sc_treetext.nd (pi_listK (K := K) (pv 0)) (blkOk_by (own := [("pair", 1)]) (N := ["tree", "pair"]) (sc := defScope s_treetext) (by decide +kernel)) (fun _ _ _ _ _ => pg_name (i := 1) sc_treetext.nd rfl (Or.inl rfl)) (fun _ _ _ _ _ => pts_nil) (fun _ _ _ _ _ => (pe_op op_addS (pe_op op_addS (pe_op op_addS (pe_ix (ix_sxK (K := K)) (pv 1) pe_int (fun _ _ => rfl)) pe_str) (pe_call G_treetext (hr.mono (by omega)) (by rfl) D_treetext.g D_treetext.F.kp D_treetext.b .nil pass0 (pa_cons (pe_ix (ix_sxK (K := K)) (pv 1) pe_int (fun _ _ => rfl)) pa_nil))) pe_str)))))), ?_⟩
    obtain ⟨a, xs, rfl, _, hx, hm, hn, hg⟩ := ht.get
    walk_at "rt"
    refine ⟨⟨_, sq_of hx⟩, fun Dd nD => ?_⟩
    refine lcTr1 (fun p => .str (S (twx p))) hx hn hm hg nD (fun _ => rfl) ?_ ?_
    · intro p H1 t y hp ht hy k1 N kk
      have hlen := tx_mem hp
      walk_at "rt"
      refine ⟨_, .inr (.inl (.inl ht)), _, rfl, ?_⟩
      refine ⟨_, rfl, ?_, _, .inr (.inl (.inl ht)), _, rfl, spT_sub hd hp hy hl fun H2 k2 => ⟨_, rfl, ?_, ?_, ?_⟩⟩
      all_goals simp only [em_app, S_op, S_cl, S_app, S_len, List.length_append, List.length_cons, List.length_nil]
      all_goals first | exact line_of (by omega) | simpa [twx] using kk H2 k2
    · intro H1 k1 hD
      refine ⟨(f.ps.map twx).map S, ?_, ?_, ?_⟩
      · rw [List.map_map, List.map_map]
        exact sq_of hD
      · rw [sum_len, S_emp, S_len, List.length_nil, Nat.mul_zero, Nat.add_zero]
        rw [tx_ps f] at hl
        exact Nat.le_trans hl (by decide)
      · rw [S_emp, join_ps]
        exact q _ k1
theorem ok_treepairs {f : Addr} {fd : FuncData} (B : Bi mg) (B_sum : mg "sum" = none) (D : Dn K mg "tree_pairs" s_treepairs ["tree"] f fd) (D_treepairs : Dn K mg "tree_pairs" s_treepairs ["tree"] f fd) (n : Nat)
    (G_treepairs : FnOk P w K mg base CX0 (n + 1) f fd ["tree"] (spT Rcn n)) : FnOk P w K mg base CX0 (n + 2) f fd ["tree"] (spT Rcn (n + 1)) := by
  refine D.F.ok sc_treepairs (fun vs H Q E h => ?_) (fun cdv A outer s H vs Q E hr h => ?_)
  · obtain ⟨v, f, rfl, _⟩ := h
    rfl
  · obtain ⟨v, f, rfl, ht, hd, hl, q⟩ := h
    refine ⟨_, (pss_one (ps_ret (pe_callB (call_sumK (K := K)) (by rfl) B_sum (by decide +kernel) (pa_cons (pe_lc (own := [("_", 1), ("answer", 2)]) (g := gTup K 2 (gCons (gName 1) (gCons (gName 2) gNil))) (tt := tYes) (by rfl) sc_treepairs.nd (pi_listK (K := K) (pv 0)) (blkOk_by (own := [("_", 1), ("answer", 2)]) (N := ["tree", "_", "answer"]) (sc := defScope s_treepairs) (by decide +kernel)) (fun _ _ _ _ _ => pg_tup (by rfl) (pgs_cons (pg_name (i := 1) sc_treepairs.nd rfl (Or.inl rfl)) (pgs_cons (pg_name (i := 2) sc_treepairs.nd rfl (Or.inl rfl)) pgs_nil))) (fun _ _ _ _ _ => pts_nil) (fun _ _ _ _ _ => (pe_op op_add pe_int (pe_call G_treepairs (hr.mono (by omega)) (by rfl) D_treepairs.g D_treepairs.F.kp D_treepairs.b .nil pass0 (pa_cons (pv 2) pa_nil))))) pa_nil)))), ?_⟩
    obtain ⟨a, xs, rfl, _, hx, hm, hn, hg⟩ := ht.get
    walk_at "rt"
    refine ⟨⟨_, sq_of hx⟩, fun Dd nD => ?_⟩
    refine lcTrP (fun p => .int (1 + icnt p.2)) hx hn hm hg nD (fun _ _ => rfl) ?_ ?_
    · intro p H1 y hp hy k1 N kk
      walk_at "rt"
      refine spT_sub hd hp hy hl fun H2 k2 => ?_
      walk_at "rt"
      exact kk _ k2
    · intro H1 k1 hD
      refine ⟨f.ps.map fun p => 1 + icnt p.2, ?_, ?_⟩
      · rw [List.map_map]
        exact sq_of hD
      · rw [cnt_sum]
        exact q _ k1
theorem ok_Ltreepairs {f : Addr} {fd : FuncData} (B : Bi mg) (B_sum : mg "sum" = none) (D : Dn K mg "_law_tree_pairs" s_Ltreepairs ["tree"] f fd) (D_Ltreepairs : Dn K mg "_law_tree_pairs" s_Ltreepairs ["tree"] f fd) (n : Nat)
    (G_Ltreepairs : FnOk P w K mg base CX0 (n + 1) f fd ["tree"] (spT Rcn n)) : FnOk P w K mg base CX0 (n + 2) f fd ["tree"] (spT Rcn (n + 1)) := by
  refine D.F.ok sc_Ltreepairs (fun vs H Q E h => ?_) (fun cdv A outer s H vs Q E hr h => ?_)
  · obtain ⟨v, f, rfl, _⟩ := h
    rfl
  · obtain ⟨v, f, rfl, ht, hd, hl, q⟩ := h
    refine ⟨_, (pss_one (ps_ret (pe_op op_add (pe_callB (call_lenXK (K := K)) (by rfl) B.len PySem.boot_len (pa_cons (pv 0) pa_nil)) (pe_callB (call_sumK (K := K)) (by rfl) B_sum (by decide +kernel) (pa_cons (pe_lc (own := [("pair", 1)]) (g := gName 1) (tt := tYes) (by rfl) sc_Ltreepairs.nd (pi_listK (K := K) (pv 0)) (blkOk_by (own := [("pair", 1)]) (N := ["tree", "pair"]) (sc := defScope s_Ltreepairs) (by decide +kernel)) (fun _ _ _ _ _ => pg_name (i := 1) sc_Ltreepairs.nd rfl (Or.inl rfl)) (fun _ _ _ _ _ => pts_nil) (fun _ _ _ _ _ => (pe_call G_Ltreepairs (hr.mono (by omega)) (by rfl) D_Ltreepairs.g D_Ltreepairs.F.kp D_Ltreepairs.b .nil pass0 (pa_cons (pe_ix (ix_sxK (K := K)) (pv 1) pe_int (fun _ _ => rfl)) pa_nil)))) pa_nil))))), ?_⟩
    obtain ⟨a, xs, rfl, _, hx, hm, hn, hg⟩ := ht.get
    walk_at "rt"
    refine ⟨_, .inl (sq_of hx), ⟨_, sq_of hx⟩, fun Dd nD => ?_⟩
    refine lcTr1 (fun p => .int (icnt p.2)) hx hn hm hg nD (fun _ => rfl) ?_ ?_
    · intro p H1 t y hp ht hy k1 N kk
      walk_at "rt"
      refine ⟨_, .inr (.inl (.inl ht)), _, rfl, ?_⟩
      exact spT_sub hd hp hy hl fun H2 k2 => kk _ k2
    · intro H1 k1 hD
      refine ⟨f.ps.map fun p => icnt p.2, ?_, ?_⟩
      · rw [List.map_map]
        exact sq_of hD
      · rw [hn, cnt_sum2]
        exact q _ k1
theorem ok_treedepth {f : Addr} {fd : FuncData} (B : Bi mg) (D : Dn K mg "tree_depth" s_treedepth ["tree"] f fd) (D_treedepth : Dn K mg "tree_depth" s_treedepth ["tree"] f fd) (n : Nat)
    (G_treedepth : FnOk P w K mg base CX0 (n + 1) f fd ["tree"] (spT Rdp n)) : FnOk P w K mg base CX0 (n + 2) f fd ["tree"] (spT Rdp (n + 1)) := by
  refine D.F.ok sc_treedepth (fun vs H Q E h => ?_) (fun cdv A outer s H vs Q E hr h => ?_)
  · obtain ⟨v, f, rfl, _⟩ := h
    rfl
  · obtain ⟨v, f, rfl, ht, hd, hl, q⟩ := h
    refine ⟨_, (pss_one (ps_ret (pe_callB (call_maxK (K := K)) (by rfl) B.max (by decide +kernel) (pa_cons (pe_op op_catL (pe_lst (pa_cons pe_int pa_nil)) (pe_lc (own := [("_", 1), ("answer", 2)]) (g := gTup K 2 (gCons (gName 1) (gCons (gName 2) gNil))) (tt := tYes) (by rfl) sc_treedepth.nd (pi_listK (K := K) (pv 0)) (blkOk_by (own := [("_", 1), ("answer", 2)]) (N := ["tree", "_", "answer"]) (sc := defScope s_treedepth) (by decide +kernel)) (fun _ _ _ _ _ => pg_tup (by rfl) (pgs_cons (pg_name (i := 1) sc_treedepth.nd rfl (Or.inl rfl)) (pgs_cons (pg_name (i := 2) sc_treedepth.nd rfl (Or.inl rfl)) pgs_nil))) (fun _ _ _ _ _ => pts_nil) (fun _ _ _ _ _ => (pe_op op_add pe_int (pe_call G_treedepth (hr.mono (by omega)) (by rfl) D_treedepth.g D_treedepth.F.kp D_treedepth.b .nil pass0 (pa_cons (pv 2) pa_nil)))))) pa_nil)))), ?_⟩
    obtain ⟨a, xs, rfl, _, hx, hm, hn, hg⟩ := ht.get
    walk_at "rt"
    refine ⟨by rw [PySem.sizeLine_eq]; decide, fun z nz => ?_⟩
    refine ⟨⟨_, sq_of (kp_put hx nz)⟩, fun Dd nD => ?_⟩
    have kz : Keeps H (L2.upd H z (.lst [V.int 0])) := Keeps.new nz
    have hz : L2.upd H z (.lst [V.int 0]) z = some (.lst [V.int 0]) := upd_same
    have hx' := kz _ _ hx
    have hg' : ∀ (i : Nat) p, f.ps[i]? = some p → ∃ x, xs[i]? = some x ∧ PrA (L2.upd H z (.lst [V.int 0])) (fun _ => True) p x := fun i p hp => by
      obtain ⟨x, h1, h2⟩ := hg i p hp
      exact ⟨x, h1, h2.keep kz⟩
    generalize L2.upd H z (.lst [V.int 0]) = H1 at *
    refine lcTrP (fun p => .int (1 + idep p.2)) hx' hn hm hg' nD (fun _ _ => rfl) ?_ ?_
    · intro p H2 y hp hy k2 N kk
      walk_at "rt"
      refine spT_sub hd hp hy hl fun H3 k3 => ?_
      walk_at "rt"
      exact kk _ k3
    · intro H2 k2 hD
      refine ⟨_, k2 _ _ hz, _, hD, ?_, fun e ne => ?_⟩
      · have := len_tx f
        simp only [List.length_cons, List.length_nil, List.length_map, len_ps]
        exact line_of (by omega)
      · refine ⟨(0 : Int) :: f.ps.map fun p => 1 + idep p.2, ?_, Nat.succ_pos _, fun m h1 h2 => ?_⟩
        · rw [List.map_cons, List.map_map]
          exact sq_of upd_same
        · rw [imax h1 h2]
          exact q _ ((kz.trans k2).trans (Keeps.new ne))
theorem ok_treedeep {f : Addr} {fd : FuncData} (B : Bi mg) (D : Dn K mg "_law_tree_deep" s_treedeep ["tree"] f fd) (D_treedeep : Dn K mg "_law_tree_deep" s_treedeep ["tree"] f fd) (n : Nat)
    (G_treedeep : FnOk P w K mg base CX0 (n + 1) f fd ["tree"] (spT Rdp n)) : FnOk P w K mg base CX0 (n + 2) f fd ["tree"] (spT Rdp (n + 1)) := by
  refine D.F.ok sc_treedeep (fun vs H Q E h => ?_) (fun cdv A outer s H vs Q E hr h => ?_)
  · obtain ⟨v, f, rfl, _⟩ := h
    rfl
  · obtain ⟨v, f, rfl, ht, hd, hl, q⟩ := h
    refine ⟨_, (pss_one (ps_ret (pe_callB (call_maxK (K := K)) (by rfl) B.max (by decide +kernel) (pa_cons (pe_op op_catL (pe_lst (pa_cons pe_int pa_nil)) (pe_lc (own := [("pair", 1)]) (g := gName 1) (tt := tYes) (by rfl) sc_treedeep.nd (pi_listK (K := K) (pv 0)) (blkOk_by (own := [("pair", 1)]) (N := ["tree", "pair"]) (sc := defScope s_treedeep) (by decide +kernel)) (fun _ _ _ _ _ => pg_name (i := 1) sc_treedeep.nd rfl (Or.inl rfl)) (fun _ _ _ _ _ => pts_nil) (fun _ _ _ _ _ => (pe_op op_add pe_int (pe_call G_treedeep (hr.mono (by omega)) (by rfl) D_treedeep.g D_treedeep.F.kp D_treedeep.b .nil pass0 (pa_cons (pe_ix (ix_sxK (K := K)) (pv 1) pe_int (fun _ _ => rfl)) pa_nil)))))) pa_nil)))), ?_⟩
    obtain ⟨a, xs, rfl, _, hx, hm, hn, hg⟩ := ht.get
    walk_at "rt"
    refine ⟨by rw [PySem.sizeLine_eq]; decide, fun z nz => ?_⟩
    refine ⟨⟨_, sq_of (kp_put hx nz)⟩, fun Dd nD => ?_⟩
    have kz : Keeps H (L2.upd H z (.lst [V.int 0])) := Keeps.new nz
    have hz : L2.upd H z (.lst [V.int 0]) z = some (.lst [V.int 0]) := upd_same
    have hx' := kz _ _ hx
    have hg' : ∀ (i : Nat) p, f.ps[i]? = some p → ∃ x, xs[i]? = some x ∧ PrA (L2.upd H z (.lst [V.int 0])) (fun _ => True) p x := fun i p hp => by
      obtain ⟨x, h1, h2⟩ := hg i p hp
      exact ⟨x, h1, h2.keep kz⟩
    generalize L2.upd H z (.lst [V.int 0]) = H1 at *
    refine lcTr1 (fun p => .int (1 + idep p.2)) hx' hn hm hg' nD (fun _ => rfl) ?_ ?_
    · intro p H2 t y hp ht hy k2 N kk
      walk_at "rt"
      refine ⟨_, .inr (.inl (.inl ht)), _, rfl, ?_⟩
      refine spT_sub hd hp hy hl fun H3 k3 => ?_
      walk_at "rt"
      exact kk _ k3
    · intro H2 k2 hD
      refine ⟨_, k2 _ _ hz, _, hD, ?_, fun e ne => ?_⟩
      · have := len_tx f
        simp only [List.length_cons, List.length_nil, List.length_map, len_ps]
        exact line_of (by omega)
      · refine ⟨(0 : Int) :: f.ps.map fun p => 1 + idep p.2, ?_, Nat.succ_pos _, fun m h1 h2 => ?_⟩
        · rw [List.map_cons, List.map_map]
          exact sq_of upd_same
        · rw [imax h1 h2]
          exact q _ ((kz.trans k2).trans (Keeps.new ne))
end
end K01
namespace K01
open PySem PySem.Spec PyProof.Rows L2 TL HotExc Tw
local macro_rules | `(tactic| walk_at "rd") => `(tactic| simp only [start1, wipe, isR, isBool, isInt, isStr, isLst, isTup, tAsg, gName, gSub, tVar, tC, tOp, tUn, tTest, tIfS, tRet, tRetN, tDrop, tB, tAnd, tOr, tNot, tAndV, tOrV, tNotV, tIf, tCB, tCons, tNil, tNext, tCall, tBM, tTup, tLst, rU, rInW, rNinW, Int.reduceNeg, tG, tG2, sP, tDisp, tPairs, tCallS, tCallSD, tCallT, StX.tStar, tCallK, tCallKS, rTupOf, tDrop, rI0, rI, rEq, rNe, scal, forR_eq, forR2_eq, forS_eq, forL_eq, lcT_eq, lcRT_eq, lcS_eq, rLenX, rLenS, rListOf, tRevL, rMulS, rRepL, rCatL, rSumN, rMaxN, tBM0, rPop, tAug, ipI,  tPart, tNoPart, CwR.tReplC, rAllK, rInSg, rNinSg, sgn_inj, rAddS, rInSt, tChain, tM1, tM0, rSplitN, rJoinN, exists_eq, rIntI, rIntB, rIntS, rStrI, rAbs, rOrd, rMin, rMax, rIxL, rIxX, rSetL, rAppend, rIxS, rSlS, rSlL, tSl, List.map_cons, List.map_nil, List.replicate_succ, List.replicate_zero, List.length_cons, List.length_nil, Nat.reduceSub, Nat.reduceAdd, Nat.zero_add, Nat.sub_self, List.getElem?_cons_zero, List.getElem?_cons_succ, List.set_cons_zero, List.set_cons_succ, List.append_nil, List.nil_append, List.cons_append, Option.some.injEq, not_true_eq_false, reduceCtorEq, exists_eq_left', exists_eq_left, exists_eq', exists_and_left, exists_and_right, V.int.injEq, V.str.injEq, V.bl.injEq, V.ref.injEq, List.cons.injEq, and_true, true_and, and_assoc, decide_eq_true_eq, Bool.not_eq_true', decide_eq_false_iff_not, ite_true, ite_false, if_true, if_false, Bool.not_true, Bool.not_false, Bool.false_eq_true, eq_self_iff_true, reduceIte, ne_eq, Int.reduceEq, not_false_eq_true])
local macro_rules | `(tactic| walk_at "rt") => `(tactic| try walk_at "rd")
local macro_rules | `(tactic| walk_at "st") => `(tactic| (walk_at "rt"; refine r_seq ?_; walk_at "rt"))
local macro_rules | `(tactic| walk_at "hp") => `(tactic| first | assumption | exact upd_same | (rw [upd_ne (by assumption)]; walk_at "hp"))
local macro_rules | `(tactic| walk_at "ex1") => `(tactic| ((with_reducible refine Exists.intro ?w (And.intro ?hx ?_)); (case hx => first | exact sq_of (by walk_at "hp") | exact .inl (sq_of (by walk_at "hp")) | exact rfl | (show _ = some (HO.lst _); walk_at "hp"))))
local macro_rules | `(tactic| walk_at "ex") => `(tactic| repeat (first | walk_at "ex1" | walk_at "rd"))
abbrev s_twigs : Stmt := topS 37
theorem sc_twigs : FnScope ["tree", "pair"] ["tree"] (defScope s_twigs) := ⟨rfl, rfl, rfl, by decide +kernel, rfl, by decide +kernel, by decide +kernel⟩
abbrev s_isname : Stmt := topS 26
theorem sc_isname : FnScope ["text", "sign"] ["text"] (defScope s_isname) := ⟨rfl, rfl, rfl, by decide +kernel, rfl, by decide +kernel, by decide +kernel⟩
abbrev s_name : Stmt := topS 27
theorem sc_name : FnScope ["store", "many", "name", "k"] ["store"] (defScope s_name) := ⟨rfl, rfl, rfl, by decide +kernel, rfl, by decide +kernel, by decide +kernel⟩
theorem pi_tupK {X : Cx} {K : PySem.W.Frag} {tg l : Expr} {tl : TE} (hl : PE X l tl) (h : X.K = K := by rfl) : PI X tg l (iTup K tl) := h ▸ pi_tup hl
theorem lcTT_eq {K : PySem.W.Frag} {tl te : TE} {g : TG} {tt : TT} {vs : List Nat} {σ : L2.St} {H : Hp} {Q : VK} : tLc (iTup K tl) g tt te vs σ H Q = tl σ H (fun v H1 => ∃ a, v = V.ref a ∧ ∃ xs, SqT K H1 a xs ∧ ∀ D, H1 D = none → LcT (Itt K a) g tt te vs σ H1 D (Q (.ref D))) := by
  show tl σ H _ = tl σ H _
  congr 1
  funext v H1
  exact propext ⟨fun ⟨a, e, ⟨xs, h⟩, q⟩ => ⟨a, e, xs, h, q⟩, fun ⟨a, e, xs, h, q⟩ => ⟨a, e, ⟨xs, h⟩, q⟩⟩
theorem r_lcTT {j : Nat} {te : TE} {vs : List Nat} {σ : L2.St} {H1 : Hp} {D : Addr} {Qd : Hp → Prop} {K : PySem.W.Frag} {a : Addr} (xs : List V) (Pv : Nat → Hp → Prop) (hw : ∀ x, wipe ((wipe σ vs).set j (some x)) vs = wipe σ vs) (h0 : Pv 0 (L2.upd H1 D (.lst []))) (hl : ∀ i H, i ≤ xs.length → Pv i H → SqT K H a xs)
    (hs : ∀ i x H, xs[i]? = some x → Pv i H → ∀ N : VK, (∀ y H4 got, H4 D = some (.lst got) → got.length < sizeLine → Pv (i + 1) (L2.upd H4 D (.lst (got ++ [y]))) → N y H4) → te ((wipe σ vs).set j (some x)) H N) (hd : ∀ H, Pv xs.length H → Qd H) : LcT (Itt K a) (gName j) tYes te vs σ H1 D Qd :=
  lc_tup (g := gName j) Pv h0 hl (fun i x H hx hp => ⟨hw x, by
    simp only [tYes, if_pos]
    exact hs i x H hx hp _ fun y H4 got h1 h2 h3 => ⟨got, h1, h2, h3⟩⟩) hd
/-! ### copies of data -/
def spCp : Nat → Sp
  | 0 => fun _ _ _ _ => False
  | n + 1 => fun vs H Q _ => ∃ (x : V) (A : Addr → Prop) (d : Dat), vs = [x] ∧ At H A d x ∧ d.dep ≤ n ∧ ∀ v H', Keeps H H' → At H' (fun p => H p = none) d v → Q v H'
theorem AtL.keep {H H' : Hp} {A : Addr → Prop} {l : List Dat} {xs : List V} (h : AtL H A l xs) (k : Keeps H H') : AtL H' A l xs := AtL.mono (fun _ h => h) (fun p o _ h => k p o h) _ _ h
theorem At.keepA {H H' : Hp} {A : Addr → Prop} {d : Dat} {x : V} (h : At H A d x) (k : Keeps H H') : At H' A d x := At.mono (fun _ h => h) (fun p o _ h => k p o h) _ _ h
/-- one step of a copy -/
theorem cp_step {n i : Nat} {H H' : Hp} {A : Addr → Prop} {l : List Dat} {xs : List V} {y : V} {Dd : Addr} {N : VK} {E : XK} (La : AtL H A l xs) (hy : xs[i]? = some y) (hm : xs.length ≤ 1000000) (hn : depL l + 1 ≤ n) (nD : H Dd = none) (kp : Keeps H H') {ys : List V} (hD : H' Dd = some (.lst ys)) (L : AtL H' (fun p => H p = none ∧ p ≠ Dd) (l.take i) ys)
    (kk : ∀ y H4 got, H4 Dd = some (.lst got) → got.length < sizeLine → (Keeps H (L2.upd H4 Dd (.lst (got ++ [y]))) ∧ ∃ ys, L2.upd H4 Dd (.lst (got ++ [y])) Dd = some (.lst ys) ∧ AtL (L2.upd H4 Dd (.lst (got ++ [y]))) (fun p => H p = none ∧ p ≠ Dd) (l.take (i + 1)) ys) → N y H4) : spCp n [y] H' N E := by
  have el := La.length
  have hi : i < l.length := by have := lt_of_get hy; omega
  obtain ⟨d, hdi⟩ : ∃ d, l[i]? = some d := ⟨_, List.getElem?_eq_getElem hi⟩
  obtain ⟨v, hv, av⟩ := AtL.get l xs i d La hdi
  rw [hy] at hv
  cases hv
  have hdep := dep_get l i d hdi
  cases n with
  | zero => omega
  | succ n =>
    refine ⟨y, A, d, rfl, At.keepA av kp, by omega, fun v H2 k2 a2 => ?_⟩
    have ey : ys.length ≤ 1000000 := by
      have := L.length
      rw [List.length_take] at this
      omega
    refine kk v H2 ys (k2 _ _ hD) (size_ok ey) ⟨(kp.trans k2).put nD, _, upd_same, ?_⟩
    rw [sum_take hdi]
    have ne : ∀ p, H' p = none → p ≠ Dd := fun p hp e => by rw [e, hD] at hp; cases hp
    exact AtL.snoc _ _ d v (AtL.mono (fun _ h => h) (fun p o hp h => by rw [upd_ne hp.2]; exact k2 p o h) _ _ L)
      (At.mono (A := fun p => H' p = none) (fun p hp => ⟨kp.free hp, ne p hp⟩) (fun p o hp h => by rw [upd_ne (ne p hp)]; exact h) d v a2)
theorem letm (c : Nat) : (c ∈ (Str.ofString "abcdefghijklmnopqrstuvwxyz").cps.toList) ↔ low c := by
  have e : (Str.ofString "abcdefghijklmnopqrstuvwxyz").cps.toList = (List.range 26).map (· + 97) := by decide +kernel
  rw [e]
  simp only [List.mem_map, List.mem_range, low]
  exact ⟨fun ⟨a, h, e⟩ => ⟨by omega, by omega⟩, fun h => ⟨c - 97, by omega, by omega⟩⟩
theorem digm (c : Nat) : (c ∈ (Str.ofString "0123456789").cps.toList) ↔ 48 ≤ c ∧ c ≤ 57 := by
  have e : (Str.ofString "0123456789").cps.toList = (List.range 10).map (· + 48) := by decide +kernel
  rw [e]
  simp only [List.mem_map, List.mem_range]
  exact ⟨fun ⟨a, h, e⟩ => ⟨by omega, by omega⟩, fun h => ⟨c - 48, by omega, by omega⟩⟩
theorem lodm (c : Nat) : (c ∈ (Str.ofString "abcdefghijklmnopqrstuvwxyz0123456789").cps.toList) ↔ lod c := by
  have e : (Str.ofString "abcdefghijklmnopqrstuvwxyz0123456789").cps.toList = (List.range 26).map (· + 97) ++ (List.range 10).map (· + 48) := by decide +kernel
  rw [e]
  simp only [List.mem_append, List.mem_map, List.mem_range, lod]
  exact ⟨fun h => h.elim (fun ⟨a, h, e⟩ => .inl ⟨by omega, by omega⟩) fun ⟨a, h, e⟩ => .inr ⟨by omega, by omega⟩, fun h => h.elim (fun h => .inl ⟨c - 97, by omega, by omega⟩) fun h => .inr ⟨c - 48, by omega, by omega⟩⟩
/-- the name a text may be -/
def spNmd : Sp := fun vs H Q _ => ∃ z : Str, vs = [.str z] ∧ z.length ≤ 1000000 ∧ Q (.bl (decide (nm (tl z)))) H
def spNam : Sp := fun vs H Q _ => ∃ (a c : Addr), vs = [.ref a] ∧ StoreAt H a c ∧ Drawn H a c (fun v => ∃ l, v = .str (S l) ∧ nm l) Q
/-- a def that tells of a tree that it is one -/
def spTwg : Nat → Sp
  | 0 => fun _ _ _ _ => False
  | n + 1 => fun vs H Q _ => ∃ v f, vs = [v] ∧ Tr H f v ∧ f.dep ≤ n ∧ Q (.bl true) H
section
variable {P : Program} {w : World} {K : PySem.W.Frag} {mg : Str → Option Value} {base : Heap}
theorem ok_copy {f : Addr} {fd : FuncData} (B : Bi mg) (D : Dn K mg "_law_copy" s_copy ["thing"] f fd) (D_copy : Dn K mg "_law_copy" s_copy ["thing"] f fd) (n k : Nat)
    (G_copy : FnOk P w K mg base CX0 (k + 1) f fd ["thing"] (spCp n)) : FnOk P w K mg base CX0 (k + 2) f fd ["thing"] (spCp (n + 1)) := by
  refine D.F.ok sc_copy (fun vs H Q E h => ?_) (fun cdv A outer s H vs Q E hr h => ?_)
  · obtain ⟨x, A, d, rfl, _⟩ := h
    rfl
  · obtain ⟨x, A1, d, rfl, hd, hn, q⟩ := h
    refine ⟨_, (pss_cons (ps_if (pt_val (pe_callB call_is_list (by rfl) B.isinstance (by decide +kernel) (pa_cons (pv 0) (pa_cons (pe_bltn (v := .ty "list") (by rfl) B.list_ (by decide +kernel) rfl) pa_nil)))) (pss_one (ps_ret (pe_lc (own := [("part", 3)]) (g := gName 3) (tt := tYes) (by rfl) sc_copy.nd (pi_listK (K := K) (pv 0)) (blkOk_by (own := [("part", 3)]) (N := ["thing", "copied", "key", "part"]) (sc := defScope s_copy) (by decide +kernel)) (fun _ _ _ _ _ => pg_name (i := 3) sc_copy.nd rfl (Or.inl rfl)) (fun _ _ _ _ _ => pts_nil) (fun _ _ _ _ _ => (pe_call G_copy (hr.mono (by omega)) (by rfl) D_copy.g D_copy.F.kp D_copy.b .nil pass0 (pa_cons (pv 3) pa_nil)))))) pss_nil)
      (pss_cons (ps_if (pt_val (pe_callB call_is_tuple (by rfl) B.isinstance (by decide +kernel) (pa_cons (pv 0) (pa_cons (pe_bltn (v := .ty "tuple") (by rfl) B.tuple_ (by decide +kernel) rfl) pa_nil)))) (pss_one (ps_ret (pe_callTy (call_tupK (K := K)) (by rfl) B.tuple_ (by decide +kernel) (pa_cons (pe_lc (own := [("part", 3)]) (g := gName 3) (tt := tYes) (by rfl) sc_copy.nd (pi_tupK (K := K) (pv 0)) (blkOk_by (own := [("part", 3)]) (N := ["thing", "copied", "key", "part"]) (sc := defScope s_copy) (by decide +kernel)) (fun _ _ _ _ _ => pg_name (i := 3) sc_copy.nd rfl (Or.inl rfl)) (fun _ _ _ _ _ => pts_nil) (fun _ _ _ _ _ => (pe_call G_copy (hr.mono (by omega)) (by rfl) D_copy.g D_copy.F.kp D_copy.b .nil pass0 (pa_cons (pv 3) pa_nil)))) pa_nil)))) pss_nil)
      (pss_cons (ps_if (pt_val (pe_callB call_is_dict (by rfl) B.isinstance (by decide +kernel) (pa_cons (pv 0) (pa_cons (pe_bltn (v := .ty "dict") (by rfl) B.dict_ (by decide +kernel) rfl) pa_nil)))) (pss_cons ps_never
      (pss_cons ps_never
      (pss_one ps_never))) pss_nil)
      (pss_one (ps_ret (pv 0)))))), ?_⟩
    have hd' := hd
    rcases d with _ | b | i | z | l | l
    case lst =>
      obtain ⟨a, xs, rfl, _, hx, hl, La⟩ := hd
      have el := La.length
      walk_at "st"
      refine ⟨A1, _, hd', ?_⟩
      walk_at "rd"
      refine ⟨⟨_, sq_of hx⟩, fun Dd nD => ?_⟩
      refine r_lcTL xs (fun i H' => Keeps H H' ∧ ∃ ys, H' Dd = some (.lst ys) ∧ AtL H' (fun p => H p = none ∧ p ≠ Dd) (l.take i) ys) (fun _ => rfl) ⟨Keeps.new nD, [], upd_same, rfl⟩ (fun i H' _ h => sq_of (h.1 _ _ hx)) ?_ ?_
      · rintro i y H' hy ⟨kp, ys, hD, L⟩ N kk
        walk_at "rt"
        exact cp_step La hy hl (by rw [Dat.dep] at hn; exact hn) nD kp hD L kk
      · rintro H' ⟨kp, ys, hD, L⟩
        rw [el, List.take_length] at L
        exact q _ _ kp ⟨Dd, ys, rfl, nD, hD, by rw [L.length]; omega, AtL.mono (fun _ h => h.1) (fun _ _ _ h => h) _ _ L⟩
    case tup =>
      obtain ⟨a, xs, rfl, _, hx, hl, La⟩ := hd
      have el := La.length
      walk_at "st"
      refine ⟨A1, _, hd', ?_⟩
      walk_at "st"
      refine ⟨A1, _, hd', ?_⟩
      walk_at "rt"
      simp only [lcTT_eq]
      refine ⟨_, rfl, a, rfl, xs, .inl (.inl hx), fun Dd nD => ?_⟩
      refine r_lcTT xs (fun i H' => Keeps H H' ∧ ∃ ys, H' Dd = some (.lst ys) ∧ AtL H' (fun p => H p = none ∧ p ≠ Dd) (l.take i) ys) (fun _ => rfl) ⟨Keeps.new nD, [], upd_same, rfl⟩ (fun i H' _ h => .inl (.inl (h.1 _ _ hx))) ?_ ?_
      · rintro i y H' hy ⟨kp, ys, hD, L⟩ N kk
        walk_at "rt"
        exact cp_step La hy hl (by rw [Dat.dep] at hn; exact hn) nD kp hD L kk
      · rintro H' ⟨kp, ys, hD, L⟩
        rw [el, List.take_length] at L
        walk_at "rt"
        refine ⟨ys, sq_of hD, fun t nt => ?_⟩
        refine q _ _ (kp.put (kp.free nt)) ⟨t, ys, rfl, kp.free nt, upd_same, by rw [L.length]; omega, AtL.mono (fun _ h => h.1) (fun p o _ h => by rw [upd_ne (fun e => by rw [e, nt] at h; cases h)]; exact h) _ _ L⟩
    all_goals
      simp only [At] at hd
      subst hd
      walk_at "st"
      refine ⟨A1, _, hd', ?_⟩
      walk_at "rt"
      walk_at "st"
      refine ⟨A1, _, hd', ?_⟩
      walk_at "rt"
      walk_at "st"
      refine ⟨⟨A1, _, hd'⟩, ?_⟩
      walk_at "rt"
      exact q _ _ (Keeps.refl _) rfl
theorem copy_all {f : Addr} {fd : FuncData} (B : Bi mg) (D : Dn K mg "_law_copy" s_copy ["thing"] f fd) : ∀ n : Nat, FnOk P w K mg base CX0 (n + 1) f fd ["thing"] (spCp n)
  | 0 => D.F.ok sc_copy (fun vs H Q E h => h.elim) (fun cdv A outer s H vs Q E hr h => h.elim)
  | n + 1 => ok_copy B D D n n (copy_all B D n)
theorem ok_isname {f : Addr} {fd : FuncData} (B : Bi mg) (D : Dn K mg "_law_is_name" s_isname ["text"] f fd) : FnOk P w K mg base CX0 1 f fd ["text"] spNmd := by
  refine D.F.ok sc_isname (fun vs H Q E h => ?_) (fun cdv A outer s H vs Q E hr h => ?_)
  · obtain ⟨z, rfl, _⟩ := h
    rfl
  · obtain ⟨z, rfl, hz, q⟩ := h
    refine ⟨_, (pss_cons (ps_if (PW.pt (pw_or (pt_cmpR op_lt (pe_callB call_lenS (by rfl) B.len PySem.boot_len (pa_cons (pv 0) pa_nil)) pe_int (nomark _)) (pw_or (pt_cmpR op_gt (pe_callB call_lenS (by rfl) B.len PySem.boot_len (pa_cons (pv 0) pa_nil)) pe_int (nomark _)) (pw_or1 (pt_cmpR op_ninSg (pe_ix ix_str (pv 0) pe_int (fun _ _ => rfl)) pe_str (by rfl)))))) (pss_one (ps_ret pe_bl)) pss_nil)
      (pss_cons (ps_for PassesOwn.never rfl (pi_str (pv 0)) (pg_name (i := 1) sc_isname.nd rfl (.inl rfl)) (pss_one (ps_if (pt_cmpR op_ninSg (pv 1) pe_str (by rfl)) (pss_one (ps_ret pe_bl)) pss_nil)))
      (pss_one (ps_ret pe_bl)))), ?_⟩
    walk_at "st"
    have hlen : z.length = (tl z).length := len_tl z
    have no : ¬ nm (tl z) → Q (.bl false) H := fun h => by
      rw [decide_eq_false h] at q
      exact q
    refine ⟨line_of (by omega), ite2 (fun h1 => no fun h => ?_) (fun h1 => ⟨line_of (by omega), ite2 (fun h6 => no fun h => ?_) (fun h6 => ⟨line_of (by omega), ?_⟩)⟩)⟩
    · have := nm_ne h
      rw [← List.length_pos_iff] at this
      omega
    · have := okd_len (.inr h)
      omega
    obtain ⟨c, r, hc⟩ : ∃ c r, tl z = c :: r := by
      cases h : tl z with
      | nil => rw [h] at hlen; simp only [List.length_nil] at hlen; omega
      | cons c r => exact ⟨c, r, rfl⟩
    refine ⟨c, by show atI (tl z) ((0 : Nat) : Int) = _; rw [hc]; exact atI_nat rfl, ite2 (fun hl => no fun h => ?_) (fun hl => ?_)⟩
    · rw [letm] at hl
      rw [hc] at h
      exact hl h.1
    rw [letm] at hl
    have hl : low c := Classical.byContradiction hl
    walk_at "st"
    refine r_str z (fun i σ H' => (∃ x, σ = [some (.str z), x]) ∧ H' = H ∧ ∀ x ∈ (tl z).take i, lod x) ⟨⟨_, rfl⟩, rfl, fun _ h => by cases h⟩ ?_ ?_
    · rintro i d σ H' hd ⟨⟨x, rfl⟩, rfl, hall⟩ N kk
      walk_at "rt"
      refine ite2 (fun h => no fun hn => ?_) (fun h => kk _ _ ⟨⟨_, rfl⟩, rfl, fun y hy => ?_⟩)
      · rw [lodm] at h
        exact h (nm_mem hn (List.mem_of_getElem? hd))
      · rw [lodm] at h
        rw [sum_take (show (tl z)[i]? = some d from hd)] at hy
        rcases List.mem_append.mp hy with hy | hy
        · exact hall y hy
        · rw [List.mem_singleton.mp hy]
          exact Classical.byContradiction h
    · rintro σ H' ⟨⟨x, rfl⟩, rfl, hall⟩
      walk_at "rt"
      have : nm (tl z) := by
        rw [show (tl z).take z.cps.toList.length = tl z from List.take_length] at hall
        rw [hc] at hall hlen ⊢
        refine ⟨hl, ?_, fun x hx => hall x (List.mem_cons_of_mem _ hx)⟩
        rw [List.length_cons] at hlen
        omega
      rw [decide_eq_true this] at q
      exact q
theorem ok_name {f f_number f_pick : Addr} {fd fd_number fd_pick : FuncData} (B : Bi mg) (D : Dn K mg "_law_name" s_name ["store"] f fd)
    (D_number : Dn K mg "_law_number" s_number ["store", "low", "high"] f_number fd_number) (D_pick : Dn K mg "_law_pick" s_pick ["store", "row"] f_pick fd_pick)
    (G_number : FnOk P w K mg base CX0 4 f_number fd_number ["store", "low", "high"] spRange) (G_pick : FnOk P w K mg base CX0 3 f_pick fd_pick ["store", "row"] spPick) : FnOk P w K mg base CX0 5 f fd ["store"] spNam := by
  refine D.F.ok sc_name (fun vs H Q E h => ?_) (fun cdv A outer s H vs Q E hr h => ?_)
  · obtain ⟨a, c, rfl, _⟩ := h
    rfl
  · obtain ⟨a, c, rfl, S0, q⟩ := h
    refine ⟨_, (pss_cons (ps_set (i := 1) sc_name.nd rfl (.inl rfl) (pe_call G_number (hr.mono (by omega)) (by rfl) D_number.g D_number.F.kp D_number.b .nil pass0 (pa_cons (pv 0) (pa_cons pe_int (pa_cons pe_int pa_nil)))))
      (pss_cons (ps_set (i := 2) sc_name.nd rfl (.inl rfl) (pe_call G_pick (hr.mono (by omega)) (by rfl) D_pick.g D_pick.F.kp D_pick.b .nil pass0 (pa_cons (pv 0) (pa_cons pe_str pa_nil))))
      (pss_cons (ps_for PassesOwn.never rfl (pi_range1 (by rfl) B.range (pa_cons (pe_op op_sub (pv 1) pe_int) pa_nil)) (pg_name (i := 3) sc_name.nd rfl (.inl rfl)) (pss_one (ps_set (i := 2) sc_name.nd rfl (.inl rfl) (pe_op op_addS (pv 2) (pe_call G_pick (hr.mono (by omega)) (by rfl) D_pick.g D_pick.F.kp D_pick.b .nil pass0 (pa_cons (pv 0) (pa_cons pe_str pa_nil)))))))
      (pss_one (ps_ret (pv 2)))))), ?_⟩
    walk_at "st"
    refine ⟨a, c, 1, 6, rfl, S0, by decide, by decide, fun v H1 S1 b1 ⟨many, e, m0, m1⟩ => ?_⟩
    subst e
    walk_at "st"
    refine ⟨a, c, _, rfl, S1, by decide +kernel, by decide +kernel, fun v H2 S2 b2 ⟨k, hk, e⟩ => ?_⟩
    subst e
    have hk := (letm k).mp hk
    walk_at "st"
    refine ⟨by omega, by omega, ?_⟩
    refine r_range (fun i σ H' => (∃ (l : List Nat) (y : Option V), σ = [some (.ref a), some (.int many), some (.str (S l)), y] ∧ ∃ r, l = k :: r ∧ r.length = i ∧ ∀ x ∈ r, lod x) ∧ StoreAt H' a c ∧ But a H H')
      ⟨⟨[k], _, rfl, [], rfl, rfl, fun _ h => by cases h⟩, S2, b1.trans b2⟩ ?_ ?_
    · rintro i σ H3 hi ⟨⟨l, y, rfl, r, rfl, hr1, hr2⟩, S3, b3⟩ N kk
      walk_at "rt"
      refine ⟨a, c, _, rfl, S3, by decide +kernel, by decide +kernel, fun v H4 S4 b4 ⟨k', hk', e⟩ => ?_⟩
      subst e
      have hk' := (lodm k').mp hk'
      walk_at "rt"
      refine ⟨?_, kk _ _ ⟨⟨(k :: r) ++ [k'], _, by rw [← S_app]; rfl, r ++ [k'], rfl, by rw [List.length_append, hr1]; rfl, fun x hx => ?_⟩, S4, b3.trans b4⟩⟩
      · rw [S_len]
        show (k :: r).length + 1 ≤ _
        exact line_of (by rw [List.length_cons]; omega)
      · rcases List.mem_append.mp hx with hx | hx
        · exact hr2 x hx
        · rw [List.mem_singleton.mp hx]; exact hk'
    · rintro σ H3 ⟨⟨l, y, rfl, r, rfl, hr1, hr2⟩, S3, b3⟩
      walk_at "rt"
      exact q _ _ S3 b3 ⟨_, rfl, hk, by omega, hr2⟩
theorem ok_twigs {f : Addr} {fd : FuncData} (B : Bi mg) (D : Dn K mg "_law_twigs" s_twigs ["tree"] f fd) (D_twigs : Dn K mg "_law_twigs" s_twigs ["tree"] f fd) (n : Nat)
    (G_twigs : FnOk P w K mg base CX0 (n + 1) f fd ["tree"] (spTwg n)) : FnOk P w K mg base CX0 (n + 2) f fd ["tree"] (spTwg (n + 1)) := by
  refine D.F.ok sc_twigs (fun vs H Q E h => ?_) (fun cdv A outer s H vs Q E hr h => ?_)
  · obtain ⟨v, f, rfl, _⟩ := h
    rfl
  · obtain ⟨v, f, rfl, ht, hd, q⟩ := h
    refine ⟨_, (pss_cons (ps_if (pt_not (pt_val (pe_callB call_is_list (by rfl) B.isinstance (by decide +kernel) (pa_cons (pv 0) (pa_cons (pe_bltn (v := .ty "list") (by rfl) B.list_ (by decide +kernel) rfl) pa_nil))))) (pss_one (ps_ret pe_bl)) pss_nil)
      (pss_cons (ps_for PassesOwn.never rfl (pi_listK (K := K) (pv 0)) (pg_name (i := 1) sc_twigs.nd rfl (.inl rfl)) (pss_one (ps_if (PW.pt (pw_or (pt_not (pt_val (pe_callB call_is_tuple (by rfl) B.isinstance (by decide +kernel) (pa_cons (pv 1) (pa_cons (pe_bltn (v := .ty "tuple") (by rfl) B.tuple_ (by decide +kernel) rfl) pa_nil))))) (pw_or (pt_cmpR op_ne (pe_callB (call_lenXK (K := K)) (by rfl) B.len PySem.boot_len (pa_cons (pv 1) pa_nil)) pe_int (nomark _)) (pw_or (pt_not (pt_val (pe_callB call_is_str (by rfl) B.isinstance (by decide +kernel) (pa_cons (pe_ix (ix_sxK (K := K)) (pv 1) pe_int (fun _ _ => rfl)) (pa_cons (pe_bltn (v := .ty "str") (by rfl) B.str_ (by decide +kernel) rfl) pa_nil))))) (pw_or1 (pt_not (pt_val (pe_call G_twigs (hr.mono (by omega)) (by rfl) D_twigs.g D_twigs.F.kp D_twigs.b .nil pass0 (pa_cons (pe_ix (ix_sxK (K := K)) (pv 1) pe_int (fun _ _ => rfl)) pa_nil))))))))) (pss_one (ps_ret pe_bl)) pss_nil)))
      (pss_one (ps_ret pe_bl)))), ?_⟩
    obtain ⟨a, xs, rfl, _, hx, hm, hn, hg⟩ := ht.inv
    walk_at "st"
    refine ⟨fun _ => True, .lst (Fd f), ht, ?_⟩
    walk_at "st"
    refine ⟨⟨_, sq_of hx⟩, ?_⟩
    refine r_list xs (fun i σ H' => (∃ x, σ = [some (.ref a), x]) ∧ H' = H) ⟨⟨_, rfl⟩, rfl⟩ (fun i σ H' _ h => by rw [h.2]; exact sq_of hx) ?_ ?_
    · rintro i x σ H' hi ⟨⟨x', rfl⟩, rfl⟩ N kk
      obtain ⟨p, hp, hP⟩ := hg i x hi
      have hT := pr_to hP
      obtain ⟨t, y, rfl, _, ht, hy⟩ := hP
      have hdm := dep_mem (mem_get hp)
      walk_at "rt"
      refine ⟨fun _ => True, _, hT, ?_⟩
      walk_at "rt"
      refine ⟨_, .inr (.inl (.inl ht)), _, .inr (.inl (.inl ht)), _, rfl, fun _ => True, .str (S p.1), rfl, ?_⟩
      walk_at "rt"
      refine ⟨_, .inr (.inl (.inl ht)), _, rfl, ?_⟩
      cases n with
      | zero => omega
      | succ n =>
        refine ⟨y, p.2, rfl, hy, by omega, ?_⟩
        walk_at "rt"
        exact kk _ _ ⟨⟨_, rfl⟩, rfl⟩
    · rintro σ H' ⟨⟨x', rfl⟩, rfl⟩
      walk_at "rt"
      exact q
theorem twigs_all {f : Addr} {fd : FuncData} (B : Bi mg) (D : Dn K mg "_law_twigs" s_twigs ["tree"] f fd) : ∀ n : Nat, FnOk P w K mg base CX0 (n + 1) f fd ["tree"] (spTwg n)
  | 0 => D.F.ok sc_twigs (fun vs H Q E h => h.elim) (fun cdv A outer s H vs Q E hr h => h.elim)
  | n + 1 => ok_twigs B D D n (twigs_all B D n)
theorem writetree_all {f : Addr} {fd : FuncData} (B : Bi mg) (D : Dn K mg "write_tree" s_writetree ["tree"] f fd) : ∀ n : Nat, FnOk P w K mg base CX0 (n + 1) f fd ["tree"] (spT Rtx n)
  | 0 => D.F.ok sc_writetree (fun vs H Q E h => h.elim) (fun cdv A outer s H vs Q E hr h => h.elim)
  | n + 1 => ok_writetree B D D n (writetree_all B D n)
theorem treetext_all {f : Addr} {fd : FuncData} (B : Bi mg) (D : Dn K mg "_law_tree_text" s_treetext ["tree"] f fd) : ∀ n : Nat, FnOk P w K mg base CX0 (n + 1) f fd ["tree"] (spT Rtx n)
  | 0 => D.F.ok sc_treetext (fun vs H Q E h => h.elim) (fun cdv A outer s H vs Q E hr h => h.elim)
  | n + 1 => ok_treetext B D D n (treetext_all B D n)
theorem treepairs_all {f : Addr} {fd : FuncData} (B : Bi mg) (B_sum : mg "sum" = none) (D : Dn K mg "tree_pairs" s_treepairs ["tree"] f fd) : ∀ n : Nat, FnOk P w K mg base CX0 (n + 1) f fd ["tree"] (spT Rcn n)
  | 0 => D.F.ok sc_treepairs (fun vs H Q E h => h.elim) (fun cdv A outer s H vs Q E hr h => h.elim)
  | n + 1 => ok_treepairs B B_sum D D n (treepairs_all B B_sum D n)
theorem Ltreepairs_all {f : Addr} {fd : FuncData} (B : Bi mg) (B_sum : mg "sum" = none) (D : Dn K mg "_law_tree_pairs" s_Ltreepairs ["tree"] f fd) : ∀ n : Nat, FnOk P w K mg base CX0 (n + 1) f fd ["tree"] (spT Rcn n)
  | 0 => D.F.ok sc_Ltreepairs (fun vs H Q E h => h.elim) (fun cdv A outer s H vs Q E hr h => h.elim)
  | n + 1 => ok_Ltreepairs B B_sum D D n (Ltreepairs_all B B_sum D n)
theorem treedepth_all {f : Addr} {fd : FuncData} (B : Bi mg) (D : Dn K mg "tree_depth" s_treedepth ["tree"] f fd) : ∀ n : Nat, FnOk P w K mg base CX0 (n + 1) f fd ["tree"] (spT Rdp n)
  | 0 => D.F.ok sc_treedepth (fun vs H Q E h => h.elim) (fun cdv A outer s H vs Q E hr h => h.elim)
  | n + 1 => ok_treedepth B D D n (treedepth_all B D n)
theorem treedeep_all {f : Addr} {fd : FuncData} (B : Bi mg) (D : Dn K mg "_law_tree_deep" s_treedeep ["tree"] f fd) : ∀ n : Nat, FnOk P w K mg base CX0 (n + 1) f fd ["tree"] (spT Rdp n)
  | 0 => D.F.ok sc_treedeep (fun vs H Q E h => h.elim) (fun cdv A outer s H vs Q E hr h => h.elim)
  | n + 1 => ok_treedeep B D D n (treedeep_all B D n)
end
end K01
namespace K01
open PySem PySem.Spec PyProof.Rows L2 TL HotExc Tw
local macro_rules | `(tactic| walk_at "rd") => `(tactic| simp only [start1, wipe, isR, isBool, isInt, isStr, isLst, isTup, tAsg, gName, gSub, tVar, tC, tOp, tUn, tTest, tIfS, tRet, tRetN, tDrop, tB, tAnd, tOr, tNot, tAndV, tOrV, tNotV, tIf, tCB, tCons, tNil, tNext, tCall, tBM, tTup, tLst, rU, rInW, rNinW, Int.reduceNeg, tG, tG2, sP, tDisp, tPairs, tCallS, tCallSD, tCallT, StX.tStar, tCallK, tCallKS, rTupOf, tDrop, rI0, rI, rEq, rNe, scal, forR_eq, forR2_eq, forS_eq, forL_eq, lcT_eq, lcRT_eq, lcS_eq, rLenX, rLenS, rListOf, tRevL, rMulS, rRepL, rCatL, rSumN, rMaxN, tBM0, rPop, tAug, ipI,  tPart, tNoPart, CwR.tReplC, rAllK, rInSg, rNinSg, sgn_inj, rAddS, rInSt, tChain, tM1, tM0, rSplitN, rJoinN, exists_eq, rIntI, rIntB, rIntS, rStrI, rAbs, rOrd, rMin, rMax, rIxL, rIxX, rSetL, rAppend, rIxS, rSlS, rSlL, tSl, List.map_cons, List.map_nil, List.replicate_succ, List.replicate_zero, List.length_cons, List.length_nil, Nat.reduceSub, Nat.reduceAdd, Nat.zero_add, Nat.sub_self, List.getElem?_cons_zero, List.getElem?_cons_succ, List.set_cons_zero, List.set_cons_succ, List.append_nil, List.nil_append, List.cons_append, Option.some.injEq, not_true_eq_false, reduceCtorEq, exists_eq_left', exists_eq_left, exists_eq', exists_and_left, exists_and_right, V.int.injEq, V.str.injEq, V.bl.injEq, V.ref.injEq, List.cons.injEq, and_true, true_and, and_assoc, decide_eq_true_eq, Bool.not_eq_true', decide_eq_false_iff_not, ite_true, ite_false, if_true, if_false, Bool.not_true, Bool.not_false, Bool.false_eq_true, eq_self_iff_true, reduceIte, ne_eq, Int.reduceEq, not_false_eq_true])
local macro_rules | `(tactic| walk_at "rt") => `(tactic| try walk_at "rd")
local macro_rules | `(tactic| walk_at "st") => `(tactic| (walk_at "rt"; refine r_seq ?_; walk_at "rt"))
local macro_rules | `(tactic| walk_at "hp") => `(tactic| first | assumption | exact upd_same | (rw [upd_ne (by assumption)]; walk_at "hp"))
local macro_rules | `(tactic| walk_at "ex1") => `(tactic| ((with_reducible refine Exists.intro ?w (And.intro ?hx ?_)); (case hx => first | exact sq_of (by walk_at "hp") | exact .inl (sq_of (by walk_at "hp")) | exact rfl | (show _ = some (HO.lst _); walk_at "hp"))))
local macro_rules | `(tactic| walk_at "ex") => `(tactic| repeat (first | walk_at "ex1" | walk_at "rd"))
abbrev s_treefault : Stmt := topS 32
theorem sc_treefault : FnScope ["text", "word", "brackets", "pairs", "k", "sign"] ["text"] (defScope s_treefault) := ⟨rfl, rfl, rfl, by decide +kernel, rfl, by decide +kernel, by decide +kernel⟩
def fltV : Option Nat → V
  | none => .non
  | some i => .int i
def spFault : Sp := fun vs H Q _ => ∃ z : Str, vs = [.str z] ∧ z.length ≤ 1000000 ∧ Q (fltV (fault (tl z))) H
/-- a state of the machine that is met -/
def St0 (s : Tw.S) (i : Nat) : Prop := s.w.length ≤ i ∧ (s.w = [] ∨ s.w = [45] ∨ nm s.w)
theorem run_drop {s : Tw.S} {i c : Nat} {l : List Nat} (h : l[i]? = some c) : run s i (l.drop i) = match step s c with | some t => run t (i + 1) (l.drop (i + 1)) | none => some i := by
  have hi : i < l.length := lt_of_get h
  rw [List.drop_eq_getElem_cons hi]
  rw [List.getElem?_eq_getElem hi] at h
  cases h
  rfl
theorem sgE {l : List Nat} : (S l = Str.ofString "") = (l = []) := by rw [S_emp]; exact propext ⟨S_inj, fun e => by rw [e]⟩
theorem sg_of {a b : Nat} {z : Str} (h : z = S [b]) : (({ cps := #[a] } : Str) = z) = (a = b) := by
  rw [h]
  exact propext ⟨fun e => (List.cons.inj (S_inj (l := [a]) (m := [b]) e)).1, fun e => by rw [e]; rfl⟩
theorem sg40 {a : Nat} : (({ cps := #[a] } : Str) = Str.ofString "(") = (a = 40) := sg_of S_op
theorem sg41 {a : Nat} : (({ cps := #[a] } : Str) = Str.ofString ")") = (a = 41) := sg_of S_cl
theorem sg45 {a : Nat} : (({ cps := #[a] } : Str) = Str.ofString "-") = (a = 45) := sg_of S_da
theorem lt13 {n : Nat} : ((n : Int) < 13) = (n < 13) := propext ⟨fun h => by omega, fun h => by omega⟩
theorem lt2000 {n : Nat} : ((n : Int) < 2000) = (n < 2000) := propext ⟨fun h => by omega, fun h => by omega⟩
section
variable {P : Program} {w : World} {K : PySem.W.Frag} {mg : Str → Option Value} {base : Heap}
theorem ok_treefault {f f_isname : Addr} {fd fd_isname : FuncData} (B : Bi mg) (D : Dn K mg "_law_tree_fault" s_treefault ["text"] f fd) (D_isname : Dn K mg "_law_is_name" s_isname ["text"] f_isname fd_isname)
    (G_isname : FnOk P w K mg base CX0 1 f_isname fd_isname ["text"] spNmd) : FnOk P w K mg base CX0 2 f fd ["text"] spFault := by
  refine D.F.ok sc_treefault (fun vs H Q E h => ?_) (fun cdv A outer s H vs Q E hr h => ?_)
  · obtain ⟨z, rfl, _⟩ := h
    rfl
  · obtain ⟨z, rfl, hz, q⟩ := h
    refine ⟨_, (pss_cons (ps_set (i := 1) sc_treefault.nd rfl (.inl rfl) pe_str)
      (pss_cons (ps_set (i := 2) sc_treefault.nd rfl (.inl rfl) pe_int)
      (pss_cons (ps_set (i := 3) sc_treefault.nd rfl (.inl rfl) pe_int)
      (pss_cons (ps_for PassesOwn.never rfl (pi_range1 (by rfl) B.range (pa_cons (pe_callB call_lenS (by rfl) B.len PySem.boot_len (pa_cons (pv 0) pa_nil)) pa_nil)) (pg_name (i := 4) sc_treefault.nd rfl (.inl rfl)) (pss_cons (ps_set (i := 5) sc_treefault.nd rfl (.inl rfl) (pe_ix ix_str (pv 0) (pv 4) (fun _ _ => rfl)))
      (pss_one (ps_if (PW.pt (pw_and (pt_cmpR op_eq (pv 5) pe_str (nomark _)) (pw_and1 (pt_cmpR op_ne (pv 1) pe_str (nomark _))))) (pss_cons (ps_set (i := 2) sc_treefault.nd rfl (.inl rfl) (pe_op op_add (pv 2) pe_int))
      (pss_cons (ps_set (i := 3) sc_treefault.nd rfl (.inl rfl) (pe_op op_add (pv 3) pe_int))
      (pss_one (ps_set (i := 1) sc_treefault.nd rfl (.inl rfl) pe_str)))) (pss_one (ps_if (PW.pt (pw_and (pt_cmpR op_eq (pv 5) pe_str (nomark _)) (pw_and (pt_cmpR op_eq (pv 1) pe_str (nomark _)) (pw_and1 (pt_cmpR op_gt (pv 2) pe_int (nomark _)))))) (pss_one (ps_set (i := 2) sc_treefault.nd rfl (.inl rfl) (pe_op op_sub (pv 2) pe_int))) (pss_one (ps_if (PW.pt (pw_and (pt_cmpR op_eq (pv 1) pe_str (nomark _)) (pw_and (PW.pt (pw_or (pt_cmpR op_eq (pv 5) pe_str (nomark _)) (pw_or1 (pt_val (pe_call G_isname (hr.mono (by omega)) (by rfl) D_isname.g D_isname.F.kp D_isname.b .nil pass0 (pa_cons (pv 5) pa_nil)))))) (pw_and (pt_cmpR op_lt (pv 2) pe_int (nomark _)) (pw_and1 (pt_cmpR op_lt (pv 3) pe_int (nomark _))))))) (pss_one (ps_set (i := 1) sc_treefault.nd rfl (.inl rfl) (pv 5))) (pss_one (ps_if (PW.pt (pw_and (pt_cmpR op_ne (pv 1) pe_str (nomark _)) (pw_and1 (pt_val (pe_call G_isname (hr.mono (by omega)) (by rfl) D_isname.g D_isname.F.kp D_isname.b .nil pass0 (pa_cons (pe_op op_addS (pv 1) (pv 5)) pa_nil)))))) (pss_one (ps_set (i := 1) sc_treefault.nd rfl (.inl rfl) (pe_op op_addS (pv 1) (pv 5)))) (pss_one (ps_ret (pv 4)))))))))))))
      (pss_cons (ps_if (PW.pt (pw_or (pt_cmpR op_ne (pv 1) pe_str (nomark _)) (pw_or1 (pt_cmpR op_gt (pv 2) pe_int (nomark _))))) (pss_one (ps_ret (pe_callB call_lenS (by rfl) B.len PySem.boot_len (pa_cons (pv 0) pa_nil)))) pss_nil)
      (pss_one (ps_ret pe_non))))))), ?_⟩
    have hlen : z.length = (tl z).length := len_tl z
    walk_at "st"
    walk_at "st"
    walk_at "st"
    walk_at "st"
    refine ⟨line_of (by omega), by omega, by omega, ?_⟩
    refine r_range (fun i σ H' => (∃ (s : Tw.S) (x y : Option V), σ = [some (.str z), some (.str (S s.w)), some (.int s.b), some (.int s.n), x, y] ∧ s.w.length ≤ i ∧ run s i ((tl z).drop i) = fault (tl z)) ∧ H' = H)
      ⟨⟨⟨[], 0, 0⟩, _, _, rfl, Nat.le_refl _, rfl⟩, rfl⟩ ?_ ?_
    · rintro i σ H' hi ⟨⟨s, x, y, rfl, hw, hr⟩, rfl⟩ N kk
      have hi : i < (tl z).length := by omega
      obtain ⟨c, hc⟩ : ∃ c, (tl z)[i]? = some c := ⟨_, List.getElem?_eq_getElem hi⟩
      rw [run_drop hc] at hr
      have hat : atI z.cps.toList (0 + (i : Int)) = some c := by rw [Int.zero_add]; exact atI_nat hc
      walk_at "st"
      refine ⟨line_of (by omega), c, hat, ?_⟩
      have nxt : ∀ (t : Tw.S) (x y : Option V), step s c = some t → t.w.length ≤ i + 1 → N [some (.str z), some (.str (S t.w)), some (.int t.b), some (.int t.n), x, y] H' := fun t x y h1 h2 => by
        rw [h1] at hr
        exact kk _ _ ⟨⟨t, x, y, rfl, h2, hr⟩, rfl⟩
      have stp : step s c = none → Q (.int (0 + (i : Int))) H' := fun h1 => by
        rw [h1] at hr
        rw [← hr] at q
        rw [Int.zero_add]
        exact q
      obtain ⟨w, b, n⟩ := s
      simp only at hw nxt stp
      simp only [sg40, sg41, sg45, sgE, Int.natCast_pos, lt13, lt2000]
      have o1 : c = 40 → ¬ w = [] → ∀ x y, N [some (.str z), some (.str (S [])), some (.int ((b : Int) + 1)), some (.int ((n : Int) + 1)), x, y] H' := fun h1 h2 x y => nxt ⟨[], b + 1, n + 1⟩ x y (by rw [h1]; exact step_open h2) (Nat.zero_le _)
      have c1 : c = 41 → w = [] → 0 < b → ∀ x y, N [some (.str z), some (.str (S w)), some (.int ((b : Int) - 1)), some (.int (n : Int)), x, y] H' := fun h1 h2 h3 x y => by
        have := nxt ⟨[], b - 1, n⟩ x y (by rw [h1, h2]; exact step_close h3) (Nat.zero_le _)
        rw [h2, show ((b : Int) - 1) = ((b - 1 : Nat) : Int) by omega]
        exact this
      have f1 : w = [] → (c = 45 ∨ nm [c]) → b < 13 → n < 2000 → ∀ x y, N [some (.str z), some (.str ⟨#[c]⟩), some (.int (b : Int)), some (.int (n : Int)), x, y] H' := fun h1 h2 h3 h4 x y => nxt ⟨[c], b, n⟩ x y (by rw [h1]; exact step_first (by rw [← nm_one]; exact h2) h3 h4) (Nat.succ_le_succ (Nat.zero_le _))
      have m1 : ¬ w = [] → nm (w ++ [c]) → ∀ x y, N [some (.str z), some (.str (S w ++ ⟨#[c]⟩)), some (.int (b : Int)), some (.int (n : Int)), x, y] H' := fun h1 h2 x y => by
        rw [show S w ++ (⟨#[c]⟩ : Str) = S (w ++ [c]) from S_app w [c]]
        exact nxt ⟨w ++ [c], b, n⟩ x y (step_more h1 h2) (by rw [List.length_append]; exact Nat.succ_le_succ hw)
      have s1 : w = [] → ¬ (c = 41 ∧ 0 < b) → ¬ ((c = 45 ∨ nm [c]) ∧ b < 13 ∧ n < 2000) → Q (.int (0 + (i : Int))) H' := fun h1 h2 h3 => stp (by
        unfold Tw.step
        rw [if_neg (by simp [h1]), if_neg (by rintro ⟨a, _, d⟩; exact h2 ⟨a, d⟩), if_neg (by rintro ⟨_, a⟩; exact h3 a), if_neg (by simp [h1])])
      have s2 : ¬ w = [] → ¬ c = 40 → ¬ nm (w ++ [c]) → Q (.int (0 + (i : Int))) H' := fun h1 h2 h3 => stp (step_stop h1 h3 h2)
      clear nxt stp kk hr
      have L1 : (S w).length + ({ cps := #[c] } : Str).length ≤ sizeLine := line_of (by rw [S_len]; show w.length + 1 ≤ _; omega)
      have k1 : ∀ Q' : VK, Q' (.bl (decide (nm [c]))) H' → spNmd [V.str { cps := #[c] }] H' Q' E0 := fun Q' h => ⟨_, rfl, by show 1 ≤ _; decide, h⟩
      have k2 : ∀ Q' : VK, Q' (.bl (decide (nm (w ++ [c])))) H' → spNmd [V.str (S w ++ { cps := #[c] })] H' Q' E0 := fun Q' h => ⟨S (w ++ [c]), by rw [← S_app]; rfl, by rw [S_len, List.length_append]; show w.length + 1 ≤ _; omega, h⟩
      clear q hc hat hz hlen
      repeat' (first
        | refine ite2 (fun h => ?_) (fun h => ?_)
        | refine k1 _ ⟨_, rfl, ?_⟩
        | refine ⟨L1, ?_⟩
        | refine k2 _ ⟨_, rfl, ?_⟩)
      all_goals try simp only [decide_eq_true_eq] at *
      all_goals first
        | contradiction
        | omega
        | exact m1 ‹_› ‹_› _ _
        | exact c1 ‹_› ‹_› ‹_› _ _
        | exact f1 ‹_› (.inl ‹_›) ‹_› ‹_› _ _
        | exact f1 ‹_› (.inr ‹_›) ‹_› ‹_› _ _
        | exact s2 ‹_› ‹_› ‹_›
        | (walk_at "st"; walk_at "st"; walk_at "rt"; rw [S_emp]; exact o1 ‹_› ‹_› _ _)
        | (refine s1 ‹_› ?_ ?_ <;> (intro hh; simp_all))
        | trace_state
    · rintro σ H' ⟨⟨s, x, y, rfl, hw, hr⟩, rfl⟩
      rw [List.drop_eq_nil_of_le (by omega)] at hr
      walk_at "st"
      simp only [sgE, Int.natCast_pos]
      have q1 : ¬ (s.w = [] ∧ ¬ 0 < s.b) → Q (.int (z.length : Int)) H' := fun h => by
        have e : run s (z.length : Int).toNat [] = some z.length := by
          unfold Tw.run
          rw [if_pos (by rcases Classical.em (s.w = []) with h1 | h1; exact .inr (Classical.byContradiction fun h2 => h ⟨h1, h2⟩); exact .inl h1)]
          rfl
        rw [← hr, e] at q
        exact q
      refine ite2 (fun h => ⟨line_of (by omega), q1 fun g => h g.1⟩) (fun h => ite2 (fun h2 => ⟨line_of (by omega), q1 fun g => g.2 h2⟩) (fun h2 => ?_))
      walk_at "rt"
      have h : s.w = [] := Classical.byContradiction h
      have e : run s (z.length : Int).toNat [] = none := by
        unfold Tw.run
        rw [if_neg (by rintro (h3 | h3); exact h3 h; exact h2 h3)]
      rw [← hr, e] at q
      exact q
end
end K01
namespace K01
open PySem PySem.Spec PyProof.Rows L2 TL HotExc Tw
local macro_rules | `(tactic| walk_at "rd") => `(tactic| simp only [start1, wipe, isR, isBool, isInt, isStr, isLst, isTup, tAsg, gName, gSub, tVar, tC, tOp, tUn, tTest, tIfS, tRet, tRetN, tDrop, tB, tAnd, tOr, tNot, tAndV, tOrV, tNotV, tIf, tCB, tCons, tNil, tNext, tCall, tBM, tTup, tLst, rU, rInW, rNinW, Int.reduceNeg, tG, tG2, sP, tDisp, tPairs, tCallS, tCallSD, tCallT, StX.tStar, tCallK, tCallKS, rTupOf, tDrop, rI0, rI, rEq, rNe, scal, forR_eq, forR2_eq, forS_eq, forL_eq, lcT_eq, lcRT_eq, lcS_eq, rLenX, rLenS, rListOf, tRevL, rMulS, rRepL, rCatL, rSumN, rMaxN, tBM0, rPop, tAug, ipI,  tPart, tNoPart, CwR.tReplC, rAllK, rInSg, rNinSg, sgn_inj, rAddS, rInSt, tChain, tM1, tM0, rSplitN, rJoinN, exists_eq, rIntI, rIntB, rIntS, rStrI, rAbs, rOrd, rMin, rMax, rIxL, rIxX, rSetL, rAppend, rIxS, rSlS, rSlL, tSl, List.map_cons, List.map_nil, List.replicate_succ, List.replicate_zero, List.length_cons, List.length_nil, Nat.reduceSub, Nat.reduceAdd, Nat.zero_add, Nat.sub_self, List.getElem?_cons_zero, List.getElem?_cons_succ, List.set_cons_zero, List.set_cons_succ, List.append_nil, List.nil_append, List.cons_append, Option.some.injEq, not_true_eq_false, reduceCtorEq, exists_eq_left', exists_eq_left, exists_eq', exists_and_left, exists_and_right, V.int.injEq, V.str.injEq, V.bl.injEq, V.ref.injEq, List.cons.injEq, and_true, true_and, and_assoc, decide_eq_true_eq, Bool.not_eq_true', decide_eq_false_iff_not, ite_true, ite_false, if_true, if_false, Bool.not_true, Bool.not_false, Bool.false_eq_true, eq_self_iff_true, reduceIte, ne_eq, Int.reduceEq, not_false_eq_true])
local macro_rules | `(tactic| walk_at "rt") => `(tactic| try walk_at "rd")
local macro_rules | `(tactic| walk_at "st") => `(tactic| (walk_at "rt"; refine r_seq ?_; walk_at "rt"))
local macro_rules | `(tactic| walk_at "hp") => `(tactic| first | assumption | exact upd_same | (rw [upd_ne (by assumption)]; walk_at "hp"))
local macro_rules | `(tactic| walk_at "ex1") => `(tactic| ((with_reducible refine Exists.intro ?w (And.intro ?hx ?_)); (case hx => first | exact sq_of (by walk_at "hp") | exact .inl (sq_of (by walk_at "hp")) | exact rfl | (show _ = some (HO.lst _); walk_at "hp"))))
local macro_rules | `(tactic| walk_at "ex") => `(tactic| repeat (first | walk_at "ex1" | walk_at "rd"))
abbrev s_iBadTree : Stmt := clsS 2 0
theorem sc_iBadTree : FnScope ["self", "at"] ["self", "at"] (defScope s_iBadTree) := ⟨rfl, rfl, rfl, by decide +kernel, rfl, by decide +kernel, by decide +kernel⟩
abbrev s_endofdeed : Stmt := topS 14
theorem sc_endofdeed : FnScope ["text", "at", "end"] ["text", "at"] (defScope s_endofdeed) := ⟨rfl, rfl, rfl, by decide +kernel, rfl, by decide +kernel, by decide +kernel⟩
/-! ### conditions of while -/
def Em (t : TE) : Prop := ∀ (σ : L2.St) (H : Hp) (Q Q' : VK), (∀ v H, Q v H → Q' v H) → t σ H Q → t σ H Q'
def Am (t : TA) : Prop := ∀ (σ : L2.St) (H : Hp) (Q Q' : List V → Hp → Prop), (∀ v H, Q v H → Q' v H) → t σ H Q → t σ H Q'
def Rm (r : R2) : Prop := ∀ (x y : V) (H : Hp) (Q Q' : VK), (∀ v H, Q v H → Q' v H) → r x y H Q → r x y H Q'
def Cm (r : List V → Hp → VK → Prop) : Prop := ∀ (xs : List V) (H : Hp) (Q Q' : VK), (∀ v H, Q v H → Q' v H) → r xs H Q → r xs H Q'
theorem m_var {i : Nat} : Em (tVar i) := fun σ H Q Q' k ⟨v, h, q⟩ => ⟨v, h, k _ _ q⟩
theorem m_c {v : V} : Em (tC v) := fun σ H Q Q' k q => k _ _ q
theorem m_nil : Am tNil := fun σ H Q Q' k q => k _ _ q
theorem m_cons {t : TE} {u : TA} (a : Em t) (b : Am u) : Am (tCons t u) := fun σ H Q Q' k q => a _ _ _ _ (fun v H q => b _ _ _ _ (fun vs H q => k _ _ q) q) q
theorem m_op {r : R2} {t u : TE} (a : Rm r) (b : Em t) (c : Em u) : Em (tOp r t u) := fun σ H Q Q' k q => b _ _ _ _ (fun v H q => c _ _ _ _ (fun v H q => a _ _ _ _ _ k q) q) q
theorem m_cb {r : List V → Hp → VK → Prop} {t : TA} (a : Cm r) (b : Am t) : Em (tCB r t) := fun σ H Q Q' k q => b _ _ _ _ (fun v H q => a _ _ _ _ k q) q
theorem m_lenS : Cm rLenS := fun xs H Q Q' k ⟨z, e, l, q⟩ => ⟨z, e, l, k _ _ q⟩
theorem m_rI {g : Int → Int → V} : Rm (rI0 g) := fun x y H Q Q' k ⟨i, j, e, e2, q⟩ => ⟨i, j, e, e2, k _ _ q⟩
theorem m_rInSg : Rm rInSg := fun x y H Q Q' k ⟨c, e, z, e2, q⟩ => ⟨c, e, z, e2, k _ _ q⟩
theorem m_rIxS : Rm rIxS := fun x y H Q Q' k ⟨z, i, c, e, e2, l, a, q⟩ => ⟨z, i, c, e, e2, l, a, k _ _ q⟩
theorem m_test {t : TE} (a : Em t) : TTm (tTest t) := fun σ H Q Q' k q => a _ _ _ _ (fun v H ⟨b, e, q⟩ => ⟨b, e, k _ _ q⟩) q
theorem m_and {t u : TT} (a : TTm t) (b : TTm u) : TTm (tAnd t u) := fun σ H Q Q' k q => a _ _ _ _ (fun v H q => by
  cases v with
  | true => exact b _ _ _ _ k q
  | false => exact k _ _ q) q
theorem m_or {t u : TT} (a : TTm t) (b : TTm u) : TTm (tOr t u) := fun σ H Q Q' k q => a _ _ _ _ (fun v H q => by
  cases v with
  | true => exact k _ _ q
  | false => exact b _ _ _ _ k q) q
/-- BadTree, told at a place -/
def BadAt (C : Addr) (i : Nat) (H : Hp) (E : XK) : Prop := ∀ d, H d = none → E (.ref C) (some d) (L2.upd H d (.xd [(("at" : Str), .int i)]))
/-- the end of a deed -/
def spEnd (C : Addr) : Sp := fun vs H Q E => ∃ (z : Str) (i b n c : Nat), vs = [.str z, .int i] ∧ z.length ≤ 1000000 ∧ (tl z)[i]? = some c ∧ b < 13 ∧ n < 2000 ∧ (c ≠ 41 ∨ b = 0) ∧
  (∀ d r, okd d → (tl z).drop i = d ++ 40 :: r → Q (.int ((i + d.length : Nat) : Int)) H) ∧ (∀ k, Tw.run ⟨[], b, n⟩ i ((tl z).drop i) = some k → BadAt C k H E)
section
variable {P : Program} {w : World} {K : PySem.W.Frag} {mg : Str → Option Value} {base : Heap}
theorem ok_iBadTree {C f : Addr} {fd : FuncData} (T : OexC K C) (no : PySem.W.findIn K (.ref C) "at" = some none) (F : Fun K "__init__" "BadTree.__init__" s_iBadTree f fd) : FnOk P w K mg base CX0 1 f fd ["self", "at"] (spIni1 C "at") := by
  refine F.ok sc_iBadTree (fun vs H Q E h => ?_) (fun cdv A outer s H vs Q E hr h => ?_)
  · obtain ⟨a, y, rfl, _⟩ := h
    rfl
  · obtain ⟨a, y, rfl, ha, q⟩ := h
    exact ⟨_, (pss_one (ps_ost (pv 0) (pv 1))), _, rfl, _, rfl, a, C, rfl, T, no, .inl ⟨ha, fun dx n ne => q dx n ne⟩⟩
theorem ok_endofdeed {C fI f : Addr} {fdI fd : FuncData} {t1 t2 t3 t4 : Tok} (B : Bi mg) (X_BadTree : Exn K mg "BadTree" C fI) (BI_BadTree : Binds K fdI ["self", "at"] []) (GI_BadTree : FnOk P w K mg base CX0 1 fI fdI ["self", "at"] (spIni1 C "at"))
    (D : Dn K mg "end_of_deed" s_endofdeed ["text", "at"] f fd) (gc_LETTERS : mg "LETTERS" = some (.str (Str.ofString "abcdefghijklmnopqrstuvwxyz") t1)) (gc_DIGITS : mg "DIGITS" = some (.str (Str.ofString "0123456789") t2)) (gc_PASS : mg "PASS" = some (.str (Str.ofString "-") t3)) (gc_LONGEST_NAME : mg "LONGEST_NAME" = some (.int 6 t4)) :
    FnOk P w K mg base (L2N.CX P w) 3 f fd ["text", "at"] (spEnd C) := by
  refine okN D.F sc_endofdeed (fun vs H Q E h => ?_) (fun cdv A outer s H vs Q E hr h => ?_)
  · obtain ⟨z, i, b, n, c, rfl, _⟩ := h
    rfl
  · obtain ⟨z, i, b, n, c, rfl, hz, hc, hb, hn, hcb, q, bad⟩ := h
    refine ⟨_, (pss_cons (ps_set (i := 2) sc_endofdeed.nd rfl (.inl rfl) (pe_op op_add (pv 1) pe_int))
      (C8.pss_cut (ps_if (pt_cmpR op_inSg (pe_ix ix_str (pv 0) (pv 1) (fun _ _ => rfl)) (pe_glob (v := .str (Str.ofString "abcdefghijklmnopqrstuvwxyz")) (by rfl) gc_LETTERS ⟨_, rfl⟩) (by rfl)) (pss_one (ps_while PassesOwn.leaving (PW.pt (pw_and (pt_cmpR op_lt (pv 2) (pe_callB call_lenS (by rfl) B.len PySem.boot_len (pa_cons (pv 0) pa_nil)) (nomark _)) (pw_and (pt_cmpR op_lt (pe_op op_sub (pv 2) (pv 1)) (pe_glob (v := .int 6) (by rfl) gc_LONGEST_NAME ⟨_, rfl⟩) (nomark _)) (pw_and1 (PW.pt (pw_or (pt_cmpR op_inSg (pe_ix ix_str (pv 0) (pv 2) (fun _ _ => rfl)) (pe_glob (v := .str (Str.ofString "abcdefghijklmnopqrstuvwxyz")) (by rfl) gc_LETTERS ⟨_, rfl⟩) (by rfl)) (pw_or1 (pt_cmpR op_inSg (pe_ix ix_str (pv 0) (pv 2) (fun _ _ => rfl)) (pe_glob (v := .str (Str.ofString "0123456789")) (by rfl) gc_DIGITS ⟨_, rfl⟩) (by rfl))))))))) (pss_one (ps_aug (i := 2) sc_endofdeed.nd rfl (.inl rfl) pe_int ip_add)))) (pss_one (ps_if (pt_cmpR op_ne (pe_ix ix_str (pv 0) (pv 1) (fun _ _ => rfl)) (pe_glob (v := .str (Str.ofString "-")) (by rfl) gc_PASS ⟨_, rfl⟩) (nomark _)) (pss_one (L2N.ps_raise rfl (L2N.takes_of rfl rfl rfl rfl) (pmkN X_BadTree.oex X_BadTree.ini X_BadTree.fn GI_BadTree (hr.mono (by omega)) BI_BadTree pass0 (by rfl) X_BadTree.g (pa_cons (pv 1) pa_nil)))) pss_nil)))
      (pss_cons (ps_if (PW.pt (pw_or (pt_cmpR op_eq (pv 2) (pe_callB call_lenS (by rfl) B.len PySem.boot_len (pa_cons (pv 0) pa_nil)) (nomark _)) (pw_or1 (pt_cmpR op_ne (pe_ix ix_str (pv 0) (pv 2) (fun _ _ => rfl)) pe_str (nomark _))))) (pss_one (L2N.ps_raise rfl (L2N.takes_of rfl rfl rfl rfl) (pmkN X_BadTree.oex X_BadTree.ini X_BadTree.fn GI_BadTree (hr.mono (by omega)) BI_BadTree pass0 (by rfl) X_BadTree.g (pa_cons (pv 2) pa_nil)))) pss_nil)
      (pss_one (ps_ret (pv 2)))))), ?_⟩
    have hlen : z.length = (tl z).length := len_tl z
    have hi : i < (tl z).length := lt_of_get hc
    have ai : ∀ (j c : Nat), (tl z)[j]? = some c → atI z.cps.toList (j : Int) = some c := fun j c h => atI_nat h
    have hd0 : (tl z).drop i = c :: (tl z).drop (i + 1) := by
      rw [List.drop_eq_getElem_cons hi]
      rw [List.getElem?_eq_getElem hi] at hc
      cases hc
      rfl
    walk_at "st"
    refine r_cut (fun σ H' => H' = H ∧ ∃ (j : Nat) (w : List Nat), σ = [some (.str z), some (.int i), some (.int j)] ∧ okd w ∧ w.length = j - i ∧ i < j ∧ j ≤ (tl z).length ∧ (tl z).drop i = w ++ (tl z).drop j ∧ Tw.run ⟨[], b, n⟩ i ((tl z).drop i) = Tw.run ⟨w, b, n⟩ j ((tl z).drop j) ∧ ∀ c', (tl z)[j]? = some c' → ¬ nm (w ++ [c'])) (fun N kk => ?_) ?_
    · walk_at "rt"
      refine ⟨line_of (by omega), c, ai _ _ hc, ite2 (fun hl => ?_) (fun hl => ?_)⟩
      · rw [letm] at hl
        have W0 : ∀ b n, b < 13 → n < 2000 → Tw.run ⟨[], b, n⟩ i ((tl z).drop i) = Tw.run ⟨[c], b, n⟩ (i + 1) ((tl z).drop (i + 1)) := fun b n h1 h2 => by rw [hd0, run_some (step_first (.inr hl) h1 h2)]
        refine r_while (m_and (m_test (m_op m_rI m_var (m_cb m_lenS (m_cons m_var m_nil)))) (m_and (m_test (m_op m_rI (m_op m_rI m_var m_var) m_c)) (m_or (m_test (m_op m_rInSg (m_op m_rIxS m_var m_var) m_c)) (m_test (m_op m_rInSg (m_op m_rIxS m_var m_var) m_c)))))
          (fun m σ H' => H' = H ∧ ∃ (j : Nat) (w : List Nat), m = (tl z).length - j ∧ σ = [some (.str z), some (.int i), some (.int j)] ∧ nm w ∧ w.length = j - i ∧ i < j ∧ j ≤ (tl z).length ∧ (tl z).drop i = w ++ (tl z).drop j ∧ Tw.run ⟨[], b, n⟩ i ((tl z).drop i) = Tw.run ⟨w, b, n⟩ j ((tl z).drop j))
          ⟨_, rfl, i + 1, [c], rfl, rfl, nm_one.mpr hl, by simp, by omega, by omega, hd0, W0 b n hb hn⟩ ?_
        rintro m σ H' ⟨rfl, j, w, rfl, rfl, nw, wl, hij, hj, hsp, hrun⟩ N2 kN
        have stop : (∀ c', (tl z)[j]? = some c' → ¬ nm (w ++ [c'])) → N [some (.str z), some (.int (i : Int)), some (.int (j : Int))] H' := fun h => kk _ _ ⟨rfl, j, w, rfl, .inr nw, wl, hij, hj, hsp, hrun, h⟩
        walk_at "rt"
        refine ⟨line_of (by omega), ite2 (fun h1 => ?_) (fun h1 => stop fun c' hc' => absurd (lt_of_get hc') (by omega))⟩
        have hj' : j < (tl z).length := by omega
        obtain ⟨c', hc'⟩ : ∃ c', (tl z)[j]? = some c' := ⟨_, List.getElem?_eq_getElem hj'⟩
        have stop2 : ¬ (w.length < 6 ∧ lod c') → N [some (.str z), some (.int (i : Int)), some (.int (j : Int))] H' := fun h => stop fun c2 hc2 => by
          rw [hc'] at hc2
          cases hc2
          rw [nm_snoc nw]
          exact h
        refine ite2 (fun h2 => ?_) (fun h2 => stop2 fun g => h2 (by omega))
        have more : lod c' → N2 [some (.str z), some (.int (i : Int)), some (.int ((j : Int) + 1))] H' := fun h => by
          have nw' : nm (w ++ [c']) := (nm_snoc nw).mpr ⟨by omega, h⟩
          have hdj : (tl z).drop j = c' :: (tl z).drop (j + 1) := by
            rw [List.drop_eq_getElem_cons hj']
            rw [List.getElem?_eq_getElem hj'] at hc'
            cases hc'
            rfl
          refine kN ((tl z).length - (j + 1)) _ _ (by omega) ⟨rfl, j + 1, w ++ [c'], rfl, rfl, nw', by rw [List.length_append, List.length_singleton]; omega, by omega, by omega, ?_, ?_⟩
          · rw [hsp, hdj, List.append_assoc]; rfl
          · rw [hrun, hdj, run_some (step_more (nm_ne nw) nw')]
        refine ⟨line_of (by omega), c', ai _ _ hc', ite2 (fun h3 => ?_) (fun h3 => ⟨line_of (by omega), c', ai _ _ hc', ite2 (fun h4 => ?_) (fun h4 => stop2 fun g => ?_)⟩)⟩
        · rw [letm] at h3
          walk_at "rt"
          exact more (.inl h3)
        · rw [digm] at h4
          walk_at "rt"
          exact more (.inr h4)
        · rw [letm] at h3
          rw [digm] at h4
          exact g.2.elim h3 h4
      · rw [letm] at hl
        refine ⟨line_of (by omega), c, ai _ _ hc, ?_⟩
        simp only [sg45]
        refine ite2 (fun h1 => ⟨_, rfl, mk1 (bad i ?_)⟩) (fun h1 => ?_)
        · rw [hd0, run_none (step_odd h1 hl hcb)]
        · have h1 : c = 45 := Classical.byContradiction h1
          subst h1
          exact kk _ _ ⟨rfl, i + 1, [45], rfl, .inl rfl, by simp, by omega, by omega, hd0, by rw [hd0, run_some (step_first (.inl rfl) hb hn)], fun c' _ => nm_dash⟩
    · rintro σ H' ⟨rfl, j, w, rfl, ow, wl, hij, hj, hsp, hrun, hno⟩
      walk_at "st"
      refine ⟨line_of (by omega), ite2 (fun h1 => ⟨_, rfl, mk1 (bad j ?_)⟩) (fun h1 => ⟨line_of (by omega), ?_⟩)⟩
      · rw [hrun, List.drop_eq_nil_of_le (by omega)]
        unfold Tw.run
        rw [if_pos (.inl (okd_ne ow))]
      have hj' : j < (tl z).length := by omega
      obtain ⟨c', hc'⟩ : ∃ c', (tl z)[j]? = some c' := ⟨_, List.getElem?_eq_getElem hj'⟩
      have hdj : (tl z).drop j = c' :: (tl z).drop (j + 1) := by
        rw [List.drop_eq_getElem_cons hj']
        rw [List.getElem?_eq_getElem hj'] at hc'
        cases hc'
        rfl
      refine ⟨c', ai _ _ hc', ?_⟩
      simp only [sg40]
      refine ite2 (fun h2 => ⟨_, rfl, mk1 (bad j ?_)⟩) (fun h2 => ?_)
      · rw [hrun, hdj, run_none (step_stop (okd_ne ow) (hno c' hc') h2)]
      · have h2 : c' = 40 := Classical.byContradiction h2
        subst h2
        have := q w _ ow (by rw [hsp, hdj])
        rw [wl, show i + (j - i) = j by omega] at this
        exact this
end
end K01
namespace K01
open PySem PySem.Spec PyProof.Rows L2 TL HotExc Tw
/-! ### the stack of open trees -/
abbrev Fr := Addr × F × List Nat
def Opn (o : Addr) (os : List Addr) (H0 : Hp) : Addr → Prop := fun p => H0 p = none ∧ p ∉ os ∧ p ≠ o
def ads (st : List Fr) : List Addr := st.map (·.1)
def Par (H : Hp) (A : Addr → Prop) (H0 : Hp) : Addr → List Fr → Prop
  | _, [] => True
  | c, p :: rest => (∃ xs t, H p.1 = some (.lst (xs ++ [.ref t])) ∧ AtL H A (Fd p.2.1) xs ∧ H t = some (.tup [.str (S p.2.2), .ref c]) ∧ H0 t = none) ∧ Par H A H0 p.1 rest
theorem AtL.to {H H' : Hp} {A A' X : Addr → Prop} {l : List Dat} {xs : List V} (h : AtL H A l xs) (hA : ∀ p, A p → H p ≠ none → A' p) (hX : ∀ p, A p → ¬ X p) (k : ∀ q x, ¬ X q → H q = some x → H' q = some x) : AtL H' A' l xs :=
  AtL.mono (fun p h => hA p h.1 h.2) (fun p o h e => k p o (hX p h.1) e) _ _ (AtL.live _ _ h)
theorem Par.to {H H' H0 : Hp} {A A' X : Addr → Prop} (hA : ∀ p, A p → H p ≠ none → A' p) (hX : ∀ p, A p → ¬ X p) (hT : ∀ t xs, H t = some (.tup xs) → ¬ X t) (k : ∀ q x, ¬ X q → H q = some x → H' q = some x) :
    ∀ (c : Addr) (st : List Fr), (∀ p ∈ st, ¬ X p.1) → Par H A H0 c st → Par H' A' H0 c st
  | _, [], _, _ => trivial
  | c, p :: rest, hp, ⟨⟨xs, t, h1, h2, h3, h4⟩, h5⟩ => ⟨⟨xs, t, k _ _ (hp p List.mem_cons_self) h1, h2.to hA hX k, k _ _ (hT _ _ h3) h3, h4⟩, Par.to hA hX hT k p.1 rest (fun q hq => hp q (List.mem_cons_of_mem _ hq)) h5⟩
theorem Par.lst {H H0 : Hp} {A : Addr → Prop} : ∀ (c : Addr) (st : List Fr), Par H A H0 c st → ∀ p ∈ ads st, ∃ ys, H p = some (.lst ys)
  | _, [], _, _, h => by cases h
  | c, q :: rest, ⟨⟨xs, t, h1, _⟩, h5⟩, p, h => by
    rcases List.mem_cons.mp h with rfl | h
    · exact ⟨_, h1⟩
    · exact Par.lst q.1 rest h5 p h
def pre : List Fr → List Nat
  | [] => []
  | p :: rest => pre rest ++ (p.2.1.tx ++ (p.2.2 ++ [40]))
def Dps : List Fr → Prop
  | [] => True
  | p :: rest => p.2.1.dep + rest.length ≤ 13 ∧ 1 + rest.length ≤ 13 ∧ Dps rest
structure Rd (H0 H : Hp) (o : Addr) (l : List Nat) (r : Addr) (st : List Fr) (a : Addr) (fc : F) (i n : Nat) : Prop where
  kp : Keeps H0 H
  oO : H0 o = none
  oH : H o = some (.lst ((a :: ads st).reverse.map V.ref))
  nd : (a :: ads st).Nodup
  no : o ∉ a :: ads st
  fr : ∀ p ∈ a :: ads st, H0 p = none
  root : (a :: ads st).getLast? = some r
  cur : ∃ xs, H a = some (.lst xs) ∧ AtL H (Opn o (a :: ads st) H0) (Fd fc) xs
  par : Par H (Opn o (a :: ads st) H0) H0 a st
  good : fc.good ∧ ∀ p ∈ st, p.2.1.good ∧ okd p.2.2
  len : fc.len ≤ n ∧ ∀ p ∈ st, p.2.1.len + 1 ≤ n
  n2 : n ≤ 2000
  dep : fc.dep + st.length ≤ 13 ∧ Dps st
  tx : pre st ++ fc.tx = l.take i
  il : i ≤ l.length
  run : Tw.run ⟨[], st.length, n⟩ i (l.drop i) = fault l
theorem Rd.lst {H0 H : Hp} {o : Addr} {l : List Nat} {r : Addr} {st : List Fr} {a : Addr} {fc : F} {i n : Nat} (R : Rd H0 H o l r st a fc i n) : ∀ p ∈ a :: ads st, ∃ ys, H p = some (.lst ys) := fun p h => by
  rcases List.mem_cons.mp h with rfl | h
  · obtain ⟨xs, h1, _⟩ := R.cur
    exact ⟨_, h1⟩
  · exact R.par.lst _ _ p h
theorem Fd_snoc (f s : F) (d : List Nat) : Fd (f.snoc d s) = Fd f ++ [tw (d, s)] := by rw [Fd_ps, snoc_ps, List.map_append, ← Fd_ps]; rfl
theorem snoc_len (f s : F) (d : List Nat) : (f.snoc d s).len = f.len + 1 := by rw [← len_ps, snoc_ps, List.length_append, len_ps]; rfl
theorem cons_drop {l : List Nat} {i c : Nat} (h : l[i]? = some c) : l.drop i = c :: l.drop (i + 1) := by
  have hi := lt_of_get h
  rw [List.drop_eq_getElem_cons hi]
  rw [List.getElem?_eq_getElem hi] at h
  cases h
  rfl
/-- a tree is closed -/
theorem Rd.pop {H0 H : Hp} {o : Addr} {l : List Nat} {r : Addr} {p : Fr} {st : List Fr} {a : Addr} {fc : F} {i n : Nat} (R : Rd H0 H o l r (p :: st) a fc i n) (h : l[i]? = some 41) :
    Rd H0 (L2.upd H o (.lst ((p.1 :: ads st).reverse.map V.ref))) o l r st p.1 (p.2.1.snoc p.2.2 fc) (i + 1) n := by
  have hl := R.lst
  have nd := R.nd
  have no := R.no
  have fr := R.fr
  have good := R.good
  have len := R.len
  have dep := R.dep
  obtain ⟨⟨xs, t, h1, h2, h3, h4⟩, h5⟩ := R.par
  obtain ⟨ys, g1, g2⟩ := R.cur
  have hX : ∀ q, Opn o (a :: p.1 :: ads st) H0 q → ¬ (q = o) := fun q h => h.2.2
  have hT : ∀ t xs, H t = some (.tup xs) → ¬ (t = o) := fun t xs h e => by rw [e, R.oH] at h; cases h
  have k : ∀ q x, ¬ (q = o) → H q = some x → L2.upd H o (.lst ((p.1 :: ads st).reverse.map V.ref)) q = some x := fun q x h e => (upd_ne h).trans e
  have hA : ∀ q, Opn o (a :: p.1 :: ads st) H0 q → H q ≠ none → Opn o (p.1 :: ads st) H0 q := fun q h _ => ⟨h.1, fun g => h.2.1 (List.mem_cons_of_mem _ g), h.2.2⟩
  have nop : o ∉ p.1 :: ads st := fun g => no (List.mem_cons_of_mem _ g)
  have nda : a ∉ p.1 :: ads st := (List.nodup_cons.mp nd).1
  have pno : ¬ p.1 = o := fun e => nop (by rw [← e]; exact List.mem_cons_self)
  have ano : ¬ a = o := fun e => no (by rw [← e]; exact List.mem_cons_self)
  have e1 := run_drop (s := ⟨[], (p :: st).length, n⟩) h
  have e2 := R.run
  rw [e1, show Tw.step ⟨[], (p :: st).length, n⟩ 41 = some ⟨[], st.length, n⟩ from step_close (Nat.succ_pos _)] at e2
  refine ⟨fun b x hb => k b x (fun e => by rw [e, R.oO] at hb; cases hb) (R.kp b x hb), R.oO, upd_same, (List.nodup_cons.mp nd).2, nop, fun q hq => fr q (List.mem_cons_of_mem _ hq), ?_, ?_, ?_, ?_, ?_, R.n2, ?_, ?_, lt_of_get h, e2⟩
  · have := R.root
    rw [show ads (p :: st) = p.1 :: ads st from rfl, List.getLast?_cons_cons] at this
    exact this
  · refine ⟨_, k _ _ pno h1, ?_⟩
    rw [Fd_snoc]
    refine AtL.snoc _ _ _ _ (h2.to hA hX k) (pr_to ⟨t, _, rfl, ⟨h4, fun g => ?_, hT _ _ h3⟩, k _ _ (hT _ _ h3) h3, a, ys, rfl, ⟨fr a List.mem_cons_self, nda, ano⟩, k _ _ ano g1, ?_, g2.to hA hX k⟩)
    · obtain ⟨zs, hz⟩ := hl t (List.mem_cons_of_mem _ g)
      rw [h3] at hz
      cases hz
    · rw [g2.length, Fd_len]
      have := len.1
      have := R.n2
      omega
  · exact Par.to hA hX hT k _ _ (fun q hq e => nop (List.mem_cons_of_mem _ (by rw [← e]; exact List.mem_map.mpr ⟨q, hq, rfl⟩))) h5
  · have gp := good.2 p List.mem_cons_self
    exact ⟨snoc_good gp.1 gp.2 good.1, fun q hq => good.2 q (List.mem_cons_of_mem _ hq)⟩
  · exact ⟨by rw [snoc_len]; exact len.2 p List.mem_cons_self, fun q hq => len.2 q (List.mem_cons_of_mem _ hq)⟩
  · obtain ⟨d1, d2, d3, d4⟩ := dep
    rw [List.length_cons] at d1
    exact ⟨by rw [snoc_dep]; omega, d4⟩
  · have := R.tx
    rw [sum_take h, ← this, snoc_tx]
    simp [pre]
/-- a tree is opened -/
theorem Rd.push {H0 H : Hp} {o : Addr} {l : List Nat} {r : Addr} {st : List Fr} {a : Addr} {fc : F} {i n : Nat} (R : Rd H0 H o l r st a fc i n) {d rest : List Nat} (od : okd d) (hd : l.drop i = d ++ 40 :: rest) (hb : st.length < 13) (hn : n < 2000)
    {e t : Addr} (he : H e = none) (ht : L2.upd H e (.lst []) t = none) {xs : List V} (hx : H a = some (.lst xs)) {H4 : Hp} (e4 : H4 = L2.upd (L2.upd (L2.upd (L2.upd H e (.lst [])) t (.tup [.str (S d), .ref e])) a (.lst (xs ++ [.ref t]))) o (.lst ((a :: ads st).reverse.map V.ref ++ [.ref e]))) :
    Rd H0 H4 o l r ((a, fc, d) :: st) e .nil (i + d.length + 1) (n + 1) := by
  have hl := R.lst
  have nd := R.nd
  have no := R.no
  have fr := R.fr
  have good := R.good
  have len := R.len
  have dep := R.dep
  have hte : ¬ t = e := fun z => by rw [z, upd_same] at ht; cases ht
  have ht0 : H t = none := (upd_ne hte).symm.trans ht
  obtain ⟨ys, g1, g2⟩ := R.cur
  rw [hx] at g1
  cases g1
  have nn : ∀ q, q ∈ a :: ads st → ¬ q = e ∧ ¬ q = t := fun q hq => by
    obtain ⟨zs, hz⟩ := hl q hq
    exact ⟨fun z => (by rw [z, he] at hz; cases hz), fun z => (by rw [z, ht0] at hz; cases hz)⟩
  have oe : ¬ o = e := fun z => by have := R.oH; rw [z, he] at this; cases this
  have ot : ¬ o = t := fun z => by have := R.oH; rw [z, ht0] at this; cases this
  have ao : ¬ a = o := fun z => no (by rw [← z]; exact List.mem_cons_self)
  have ae := (nn a List.mem_cons_self).1
  have at_ := (nn a List.mem_cons_self).2
  have k : ∀ q x, ¬ (q = a ∨ q = o) → H q = some x → H4 q = some x := fun q x h hq => by
    rw [e4, upd_ne (fun z => h (.inr z)), upd_ne (fun z => h (.inl z)), upd_ne (fun z => by rw [z, ht0] at hq; cases hq), upd_ne (fun z => by rw [z, he] at hq; cases hq)]
    exact hq
  have hX : ∀ q, Opn o (a :: ads st) H0 q → ¬ (q = a ∨ q = o) := fun q h z => z.elim (fun z => h.2.1 (by rw [z]; exact List.mem_cons_self)) h.2.2
  have hT : ∀ t xs, H t = some (.tup xs) → ¬ (t = a ∨ t = o) := fun t xs h z => z.elim (fun z => by rw [z, hx] at h; cases h) fun z => by rw [z, R.oH] at h; cases h
  have hA : ∀ q, Opn o (a :: ads st) H0 q → H q ≠ none → Opn o (e :: a :: ads st) H0 q := fun q h hq => ⟨h.1, fun g => (List.mem_cons.mp g).elim (fun z => hq (by rw [z]; exact he)) h.2.1, h.2.2⟩
  have h4t : H4 t = some (.tup [.str (S d), .ref e]) := by
    rw [e4, upd_ne (Ne.symm ot), upd_ne (Ne.symm at_), upd_same]
  have h4a : H4 a = some (.lst (xs ++ [.ref t])) := by rw [e4, upd_ne ao, upd_same]
  have h4e : H4 e = some (.lst []) := by rw [e4, upd_ne (Ne.symm oe), upd_ne (Ne.symm ae), upd_ne (Ne.symm hte), upd_same]
  have ha : ads ((a, fc, d) :: st) = a :: ads st := rfl
  have dl : i + d.length + 1 ≤ l.length := by
    have := congrArg List.length hd
    rw [List.length_drop, List.length_append, List.length_cons] at this
    omega
  have hd2 : l.drop (i + d.length + 1) = rest := by
    rw [show i + d.length + 1 = i + (d.length + 1) by omega, ← List.drop_drop, hd]
    rw [show d ++ 40 :: rest = (d ++ [40]) ++ rest by simp, show d.length + 1 = (d ++ [40]).length by simp, List.drop_left]
  refine ⟨fun b x hb => k b x (fun z => z.elim (fun z => by rw [z, fr a List.mem_cons_self] at hb; cases hb) fun z => by rw [z, R.oO] at hb; cases hb) (R.kp b x hb), R.oO, ?_, ?_, ?_, ?_, ?_, ⟨[], h4e, rfl⟩, ?_, ?_, ?_, by omega, ?_, ?_, dl, ?_⟩
  · rw [e4, upd_same, ha, List.reverse_cons (a := e), List.map_append]
    rfl
  · rw [ha]
    exact List.nodup_cons.mpr ⟨fun g => (nn e g).1 rfl, nd⟩
  · rw [ha]
    exact fun g => (List.mem_cons.mp g).elim oe no
  · rw [ha]
    intro q hq
    rcases List.mem_cons.mp hq with rfl | hq
    · exact R.kp.free he
    · exact fr q hq
  · rw [ha, List.getLast?_cons_cons]
    exact R.root
  · refine ⟨⟨xs, t, h4a, g2.to hA hX k, h4t, R.kp.free ht0⟩, Par.to hA hX hT k _ _ (fun q hq z => ?_) R.par⟩
    have hq' : q.1 ∈ ads st := List.mem_map.mpr ⟨q, hq, rfl⟩
    rcases z with z | z
    · exact (List.nodup_cons.mp nd).1 (by rw [← z]; exact hq')
    · exact no (List.mem_cons_of_mem _ (by rw [← z]; exact hq'))
  · refine ⟨trivial, fun q hq => ?_⟩
    rcases List.mem_cons.mp hq with rfl | hq
    · exact ⟨good.1, od⟩
    · exact good.2 q hq
  · refine ⟨Nat.zero_le _, fun q hq => ?_⟩
    rcases List.mem_cons.mp hq with rfl | hq
    · exact Nat.succ_le_succ len.1
    · exact Nat.le_succ_of_le (len.2 q hq)
  · refine ⟨by rw [List.length_cons]; simp only [F.dep]; omega, dep.1, by omega, dep.2⟩
  · have := R.tx
    have e : l.take (i + d.length + 1) = l.take i ++ (d ++ [40]) := by
      rw [show i + d.length + 1 = i + (d ++ [40]).length by simp; omega, List.take_add, hd, show d ++ 40 :: rest = (d ++ [40]) ++ rest by simp, List.take_left]
    rw [e, ← this]
    simp [pre, F.tx]
  · rw [← R.run, hd, run_deed od hb hn, run_some (step_open (okd_ne od)), hd2, List.length_cons]
/-- all is closed -/
theorem Rd.done {H0 H : Hp} {o : Addr} {l : List Nat} {r : Addr} {a : Addr} {fc : F} {i n : Nat} (R : Rd H0 H o l r [] a fc i n) (hi : i = l.length) : fc.good ∧ fc.tx = l ∧ fc.dep ≤ 13 ∧ fault l = none ∧ TrA H (fun p => H0 p = none) fc (.ref r) := by
  have e : a = r := by
    have := R.root
    cases this
    rfl
  obtain ⟨xs, h1, h2⟩ := R.cur
  have tx := R.tx
  have run := R.run
  have hl := R.len.1
  have hn := R.n2
  rw [hi, List.take_length] at tx
  rw [hi, List.drop_length] at run
  refine ⟨R.good.1, tx, R.dep.1, ?_, a, xs, by rw [e], R.fr a List.mem_cons_self, h1, by rw [h2.length, Fd_len]; omega, AtL.mono (fun p h => h.1) (fun _ _ _ h => h) _ _ h2⟩
  rw [← run]
  rfl
theorem Rd.bad {H0 H : Hp} {o : Addr} {l : List Nat} {r : Addr} {p : Fr} {st : List Fr} {a : Addr} {fc : F} {i n : Nat} (R : Rd H0 H o l r (p :: st) a fc i n) (hi : i = l.length) : fault l = some i := by
  have run := R.run
  rw [hi, List.drop_length] at run
  rw [← run, hi]
  unfold Tw.run
  rw [if_pos (.inr (by rw [List.length_cons]; exact Nat.succ_pos _))]
end K01
namespace K01
open PySem PySem.Spec PyProof.Rows L2 TL HotExc Tw
local macro_rules | `(tactic| walk_at "rd") => `(tactic| simp only [start1, wipe, isR, isBool, isInt, isStr, isLst, isTup, tAsg, gName, gSub, tVar, tC, tOp, tUn, tTest, tIfS, tRet, tRetN, tDrop, tB, tAnd, tOr, tNot, tAndV, tOrV, tNotV, tIf, tCB, tCons, tNil, tNext, tCall, tBM, tTup, tLst, rU, rInW, rNinW, Int.reduceNeg, tG, tG2, sP, tDisp, tPairs, tCallS, tCallSD, tCallT, StX.tStar, tCallK, tCallKS, rTupOf, tDrop, rI0, rI, rEq, rNe, scal, forR_eq, forR2_eq, forS_eq, forL_eq, lcT_eq, lcRT_eq, lcS_eq, rLenX, rLenS, rListOf, tRevL, rMulS, rRepL, rCatL, rSumN, rMaxN, tBM0, rPop, tAug, ipI,  tPart, tNoPart, CwR.tReplC, rAllK, rInSg, rNinSg, sgn_inj, rAddS, rInSt, tChain, tM1, tM0, rSplitN, rJoinN, exists_eq, rIntI, rIntB, rIntS, rStrI, rAbs, rOrd, rMin, rMax, rIxL, rIxX, rSetL, rAppend, rIxS, rSlS, rSlL, tSl, List.map_cons, List.map_nil, List.replicate_succ, List.replicate_zero, List.length_cons, List.length_nil, Nat.reduceSub, Nat.reduceAdd, Nat.zero_add, Nat.sub_self, List.getElem?_cons_zero, List.getElem?_cons_succ, List.set_cons_zero, List.set_cons_succ, List.append_nil, List.nil_append, List.cons_append, Option.some.injEq, not_true_eq_false, reduceCtorEq, exists_eq_left', exists_eq_left, exists_eq', exists_and_left, exists_and_right, V.int.injEq, V.str.injEq, V.bl.injEq, V.ref.injEq, List.cons.injEq, and_true, true_and, and_assoc, decide_eq_true_eq, Bool.not_eq_true', decide_eq_false_iff_not, ite_true, ite_false, if_true, if_false, Bool.not_true, Bool.not_false, Bool.false_eq_true, eq_self_iff_true, reduceIte, ne_eq, Int.reduceEq, not_false_eq_true])
local macro_rules | `(tactic| walk_at "rt") => `(tactic| try walk_at "rd")
local macro_rules | `(tactic| walk_at "st") => `(tactic| (walk_at "rt"; refine r_seq ?_; walk_at "rt"))
local macro_rules | `(tactic| walk_at "hp") => `(tactic| first | assumption | exact upd_same | (rw [upd_ne (by assumption)]; walk_at "hp"))
local macro_rules | `(tactic| walk_at "ex1") => `(tactic| ((with_reducible refine Exists.intro ?w (And.intro ?hx ?_)); (case hx => first | exact sq_of (by walk_at "hp") | exact .inl (sq_of (by walk_at "hp")) | exact rfl | (show _ = some (HO.lst _); walk_at "hp"))))
local macro_rules | `(tactic| walk_at "ex") => `(tactic| repeat (first | walk_at "ex1" | walk_at "rd"))
abbrev s_readtree : Stmt := topS 11
theorem sc_readtree : FnScope ["text", "tree", "open_trees", "pairs", "at", "end", "answer"] ["text"] (defScope s_readtree) := ⟨rfl, rfl, rfl, by decide +kernel, rfl, by decide +kernel, by decide +kernel⟩
def spRead (C : Addr) : Sp := fun vs H Q E => ∃ z : Str, vs = [.str z] ∧ z.length ≤ 1000000 ∧
  (∀ r H' f, fault (tl z) = none → Keeps H H' → f.good → f.tx = tl z → f.dep ≤ 13 → TrA H' (fun p => H p = none) f (.ref r) → Q (.ref r) H') ∧ (∀ k, fault (tl z) = some k → ∀ H', Keeps H H' → BadAt C k H' E)
theorem cut_text {z : Str} {i : Nat} {d r : List Nat} (h : (tl z).drop i = d ++ r) : cutS z (some (i : Int)) (some ((i + d.length : Nat) : Int)) = S d := by
  have hz : z.length = (tl z).length := len_tl z
  have hl := congrArg List.length h
  rw [List.length_drop, List.length_append] at hl
  unfold cutS
  rw [HT.sIx_nat, HT.sIx_nat]
  show S _ = S d
  congr 1
  by_cases hi : i ≤ (tl z).length
  · rw [Nat.min_eq_left (by omega), Nat.min_eq_left (by omega), show (z.cps.toList).drop i = d ++ r from h, show i + d.length - i = d.length by omega, List.take_left]
  · have h1 : d.length = 0 := by omega
    rw [List.length_eq_zero_iff.mp h1]
    simp
theorem atI_last (xs : List V) (y : V) : atI (xs ++ [y]) (-1) = some y := by
  unfold atI ixN
  rw [List.length_append]
  simp
  rw [if_pos (by omega), show (-1 + ((xs.length : Int) + 1)).toNat = xs.length by omega]
  simp
section
variable {P : Program} {w : World} {K : PySem.W.Frag} {mg : Str → Option Value} {base : Heap}
theorem ok_readtree {C fI f f_end : Addr} {fdI fd fd_end : FuncData} {t1 t2 : Tok} (B : Bi mg) (X_BadTree : Exn K mg "BadTree" C fI) (BI_BadTree : Binds K fdI ["self", "at"] []) (GI_BadTree : FnOk P w K mg base CX0 1 fI fdI ["self", "at"] (spIni1 C "at"))
    (D : Dn K mg "read_tree" s_readtree ["text"] f fd) (D_endofdeed : Dn K mg "end_of_deed" s_endofdeed ["text", "at"] f_end fd_end) (gc_MOST_OPEN : mg "MOST_OPEN" = some (.int 13 t1)) (gc_MOST_PAIRS : mg "MOST_PAIRS" = some (.int 2000 t2))
    (G_endofdeed : FnOk P w K mg base (L2N.CX P w) 3 f_end fd_end ["text", "at"] (spEnd C)) :
    FnOk P w K mg base (L2N.CX P w) 4 f fd ["text"] (spRead C) := by
  refine okN D.F sc_readtree (fun vs H Q E h => ?_) (fun cdv A outer s H vs Q E hr h => ?_)
  · obtain ⟨z, rfl, _⟩ := h
    rfl
  · obtain ⟨z, rfl, hz, q, bad⟩ := h
    refine ⟨_, (pss_cons (ps_set (i := 1) sc_readtree.nd rfl (.inl rfl) (pe_lst pa_nil))
      (pss_cons (ps_set (i := 2) sc_readtree.nd rfl (.inl rfl) (pe_lst (pa_cons (pv 1) pa_nil)))
      (pss_cons (ps_set (i := 3) sc_readtree.nd rfl (.inl rfl) pe_int)
      (pss_cons (ps_set (i := 4) sc_readtree.nd rfl (.inl rfl) pe_int)
      (pss_cons (ps_while PassesOwn.leaving (pt_cmpR op_lt (pv 4) (pe_callB call_lenS (by rfl) B.len PySem.boot_len (pa_cons (pv 0) pa_nil)) (nomark _)) (pss_one (ps_if (PW.pt (pw_and (pt_cmpR op_eq (pe_ix ix_str (pv 0) (pv 4) (fun _ _ => rfl)) pe_str (nomark _)) (pw_and1 (pt_cmpR op_gt (pe_callB (call_lenXK (K := K)) (by rfl) B.len PySem.boot_len (pa_cons (pv 2) pa_nil)) pe_int (nomark _))))) (pss_cons (ps_expr (pe_bm0 PySem.F.plainAttrs_list PySem.F.slot_list_pop PySem.F.type_list_pop mt_pop (pv 2)))
      (pss_one (ps_aug (i := 4) sc_readtree.nd rfl (.inl rfl) pe_int ip_add))) (pss_one (ps_if (PW.pt (pw_or (pt_cmpR op_gt (pe_callB (call_lenXK (K := K)) (by rfl) B.len PySem.boot_len (pa_cons (pv 2) pa_nil)) (pe_glob (v := .int 13) (by rfl) gc_MOST_OPEN ⟨_, rfl⟩) (nomark _)) (pw_or1 (pt_cmpR op_ge (pv 3) (pe_glob (v := .int 2000) (by rfl) gc_MOST_PAIRS ⟨_, rfl⟩) (nomark _))))) (pss_one (L2N.ps_raise rfl (L2N.takes_of rfl rfl rfl rfl) (pmkN X_BadTree.oex X_BadTree.ini X_BadTree.fn GI_BadTree (hr.mono (by omega)) BI_BadTree pass0 (by rfl) X_BadTree.g (pa_cons (pv 4) pa_nil)))) (pss_cons (ps_set (i := 5) sc_readtree.nd rfl (.inl rfl) (pe_callS G_endofdeed (hr.mono (by omega)) rfl D_endofdeed.g D_endofdeed.F.kp D_endofdeed.b (fun σ => L2N.passAt (L2N.takes_of rfl rfl rfl rfl) σ) (pa_cons (pv 0) (pa_cons (pv 4) pa_nil))))
      (pss_cons (ps_set (i := 6) sc_readtree.nd rfl (.inl rfl) (pe_lst pa_nil))
      (pss_cons (ps_expr (pe_bm PySem.F.plainAttrs_list PySem.F.slot_list_append PySem.F.type_list_append mt_append (pe_ix (ix_listK (K := K)) (pv 2) (pe_un un_neg pe_int) (fun _ _ => rfl)) (pa_cons (pe_tup (pa_cons (pe_slice sl_str (pv 0) (po_some (pv 4)) (po_some (pv 5))) (pa_cons (pv 6) pa_nil))) pa_nil)))
      (pss_cons (ps_expr (pe_bm PySem.F.plainAttrs_list PySem.F.slot_list_append PySem.F.type_list_append mt_append (pv 2) (pa_cons (pv 6) pa_nil)))
      (pss_cons (ps_aug (i := 3) sc_readtree.nd rfl (.inl rfl) pe_int ip_add)
      (pss_one (ps_set (i := 4) sc_readtree.nd rfl (.inl rfl) (pe_op op_add (pv 5) pe_int)))))))))))))
      (pss_cons (ps_if (pt_cmpR op_gt (pe_callB (call_lenXK (K := K)) (by rfl) B.len PySem.boot_len (pa_cons (pv 2) pa_nil)) pe_int (nomark _)) (pss_one (L2N.ps_raise rfl (L2N.takes_of rfl rfl rfl rfl) (pmkN X_BadTree.oex X_BadTree.ini X_BadTree.fn GI_BadTree (hr.mono (by omega)) BI_BadTree pass0 (by rfl) X_BadTree.g (pa_cons (pv 4) pa_nil)))) pss_nil)
      (pss_one (ps_ret (pv 1))))))))), ?_⟩
    have hlen : z.length = (tl z).length := len_tl z
    walk_at "st"
    refine ⟨by decide, fun r nr => ?_⟩
    walk_at "st"
    refine ⟨by decide, fun o no => ?_⟩
    have nro : r ≠ o := ne_of_none (upd_same (H := H) (a := r) (o := .lst [])) no
    have no0 : H o = none := (upd_ne (Ne.symm nro)).symm.trans no
    have R0 : Rd H (L2.upd (L2.upd H r (.lst [])) o (.lst [.ref r])) o (tl z) r [] r .nil 0 0 := by
      refine ⟨(Keeps.new nr).put no0, no0, upd_same, List.nodup_cons.mpr ⟨fun h => (by cases h), List.nodup_nil⟩, fun h => (by
        rcases List.mem_cons.mp h with h | h
        · exact nro h.symm
        · cases h), fun p hp => (by
        rcases List.mem_cons.mp hp with h | h
        · rw [h]; exact nr
        · cases h), rfl, ⟨[], by rw [upd_ne nro]; exact upd_same, rfl⟩, trivial, ⟨trivial, fun q h => by cases h⟩, ⟨Nat.le_refl _, fun q h => by cases h⟩, by decide, ⟨by decide, trivial⟩, rfl, Nat.zero_le _, rfl⟩
    generalize L2.upd (L2.upd H r (.lst [])) o (.lst [.ref r]) = H1 at R0 ⊢
    walk_at "st"
    walk_at "st"
    walk_at "st"
    refine r_while (m_test (m_op m_rI m_var (m_cb m_lenS (m_cons m_var m_nil))))
      (fun m σ H' => ∃ (st : List Fr) (a : Addr) (fc : F) (i n : Nat) (x5 x6 : Option V), m = (tl z).length - i ∧ σ = [some (.str z), some (.ref r), some (.ref o), some (.int n), some (.int i), x5, x6] ∧ Rd H H' o (tl z) r st a fc i n) ⟨_, _, _, _, _, _, _, _, rfl, rfl, R0⟩ ?_
    rintro m σ H2 ⟨st, a, fc, i, n, x5, x6, rfl, rfl, R⟩ N kN
    have il := R.il
    walk_at "rt"
    refine ⟨line_of (by omega), ite2 (fun h1 => ?_) (fun h1 => ?_)⟩
    · have hi : i < (tl z).length := by omega
      obtain ⟨c, hc⟩ : ∃ c, (tl z)[i]? = some c := ⟨_, List.getElem?_eq_getElem hi⟩
      have hat : atI z.cps.toList (i : Int) = some c := atI_nat hc
      refine ⟨line_of (by omega), c, hat, ?_⟩
      simp only [sg41]
      have olen : ((a :: ads st).reverse.map V.ref).length = st.length + 1 := by simp [ads]
      by_cases hcb : c = 41 ∧ st ≠ []
      · obtain ⟨rfl, hst⟩ := hcb
        cases st with
        | nil => exact absurd rfl hst
        | cons p st =>
          refine ite2 (fun _ => ⟨_, .inl (sq_of R.oH), ite2 (fun _ => ?_) (fun g => absurd g (by rw [olen, List.length_cons]; omega))⟩) (fun g => absurd rfl g)
          walk_at "st"
          have e : ((a :: ads (p :: st)).reverse.map V.ref).dropLast = (p.1 :: ads st).reverse.map V.ref := by
            rw [List.reverse_cons, List.map_append]
            exact List.dropLast_concat
          refine ⟨.inl ⟨rfl, _, sq_of R.oH⟩, _, R.oH, ⟨_, List.getElem?_eq_getElem (by rw [olen]; omega)⟩, ?_⟩
          rw [e]
          exact kN ((tl z).length - (i + 1)) _ _ (by omega) ⟨st, p.1, p.2.1.snoc p.2.2 fc, i + 1, n, x5, x6, rfl, rfl, R.pop hc⟩
      · have hcb' : c ≠ 41 ∨ st.length = 0 := by
          by_cases g : c = 41
          · exact .inr (by
              cases st with
              | nil => rfl
              | cons p st => exact absurd ⟨g, fun z => nomatch z⟩ hcb)
          · exact .inl g
        refine ite2 (fun g => ⟨_, .inl (sq_of R.oH), ite2 (fun g2 => absurd g2 (by
          have := hcb'.resolve_left (fun x => x g)
          rw [olen]; omega)) (fun _ => ?_)⟩) (fun _ => ?_)
        all_goals
          refine ⟨_, .inl (sq_of R.oH), ite2 (fun g => ⟨_, rfl, mk1 (bad i ?_ _ R.kp)⟩) (fun g => ite2 (fun g2 => ⟨_, rfl, mk1 (bad i ?_ _ R.kp)⟩) (fun g2 => ?_))⟩
          · rw [← R.run, cons_drop hc, run_none (step_full (.inl (by rw [olen] at g; omega)) hcb')]
          · rw [← R.run, cons_drop hc, run_none (step_full (.inr (by omega)) hcb')]
          have hb : st.length < 13 := by rw [olen] at g; omega
          have hn : n < 2000 := by omega
          walk_at "st"
          refine ⟨z, i, st.length, n, c, rfl, hz, hc, hb, hn, hcb', fun d rest od hd => ?_, fun k hk => bad k (by rw [← R.run]; exact hk) _ R.kp⟩
          walk_at "st"
          refine ⟨by decide, fun e he => ?_⟩
          walk_at "st"
          obtain ⟨xs, hx, _⟩ := R.cur
          have eo : (a :: ads st).reverse.map V.ref = (ads st).reverse.map V.ref ++ [V.ref a] := by rw [List.reverse_cons, List.map_append]; rfl
          have nae : a ≠ e := ne_of_none hx he
          have noe : o ≠ e := ne_of_none R.oH he
          have hx1 : L2.upd H2 e (.lst []) a = some (.lst xs) := (upd_ne nae).trans hx
          have ho1 := (upd_ne noe : L2.upd H2 e (.lst []) o = _).trans R.oH
          have xl : xs.length < sizeLine := size_ok (by
            have g1 := R.cur
            obtain ⟨xs2, g1, g2⟩ := g1
            rw [hx] at g1
            cases g1
            rw [g2.length, Fd_len]
            have := R.len.1
            omega)
          refine ⟨_, sq_of ho1, V.ref a, by rw [eo]; exact atI_last _ _, .inl ⟨rfl, _, sq_of hx1⟩, line_of (by omega), by rw [PySem.sizeLine_eq]; decide, fun t nt => ?_⟩
          rw [cut_text hd]
          have nat_ : a ≠ t := ne_of_none hx1 nt
          have not_ : o ≠ t := ne_of_none ho1 nt
          have nao : a ≠ o := fun z => R.no (by rw [← z]; exact List.mem_cons_self)
          refine ⟨a, rfl, xs, (upd_ne nat_).trans hx1, xl, ?_⟩
          have ho2 : L2.upd (L2.upd (L2.upd H2 e (.lst [])) t (.tup [.str (S d), .ref e])) a (.lst (xs ++ [.ref t])) o = some (.lst ((a :: ads st).reverse.map V.ref)) := (upd_ne (Ne.symm nao)).trans ((upd_ne not_).trans ho1)
          have RR := R.push od hd hb hn he nt hx rfl
          generalize L2.upd (L2.upd (L2.upd H2 e (.lst [])) t (.tup [.str (S d), .ref e])) a (.lst (xs ++ [.ref t])) = H3 at ho2 RR ⊢
          walk_at "st"
          refine ⟨.inl ⟨rfl, _, sq_of ho2⟩, _, ho2, size_ok (by rw [olen]; omega), ?_⟩
          walk_at "st"
          walk_at "rt"
          exact kN ((tl z).length - (i + d.length + 1)) _ _ (by have := RR.il; omega) ⟨_, e, .nil, i + d.length + 1, n + 1, _, _, rfl, rfl, RR⟩
    · walk_at "st"
      refine ⟨_, .inl (sq_of R.oH), ite2 (fun g => ?_) (fun g => ?_)⟩
      · cases st with
        | nil => simp [ads] at g
        | cons p st => exact ⟨_, rfl, mk1 (bad i (R.bad (by omega)) _ R.kp)⟩
      · cases st with
        | nil =>
          obtain ⟨g1, g2, g3, g4, g5⟩ := R.done (by omega)
          walk_at "rt"
          exact q r H2 fc g4 R.kp g1 g2 g3 g5
        | cons p st => exact absurd (by simp [ads]; omega) g
end
end K01
namespace K01
open PySem PySem.Spec PyProof.Rows L2 TL HotExc Tw
local macro_rules | `(tactic| walk_at "rd") => `(tactic| simp only [start1, wipe, isR, isBool, isInt, isStr, isLst, isTup, tAsg, gName, gSub, tVar, tC, tOp, tUn, tTest, tIfS, tRet, tRetN, tDrop, tB, tAnd, tOr, tNot, tAndV, tOrV, tNotV, tIf, tCB, tCons, tNil, tNext, tCall, tBM, tTup, tLst, rU, rInW, rNinW, Int.reduceNeg, tG, tG2, sP, tDisp, tPairs, tCallS, tCallSD, tCallT, StX.tStar, tCallK, tCallKS, rTupOf, tDrop, rI0, rI, rEq, rNe, scal, forR_eq, forR2_eq, forS_eq, forL_eq, lcT_eq, lcRT_eq, lcS_eq, rLenX, rLenS, rListOf, tRevL, rMulS, rRepL, rCatL, rSumN, rMaxN, tBM0, rPop, tAug, ipI,  tPart, tNoPart, CwR.tReplC, rAllK, rInSg, rNinSg, sgn_inj, rAddS, rInSt, tChain, tM1, tM0, rSplitN, rJoinN, exists_eq, rIntI, rIntB, rIntS, rStrI, rAbs, rOrd, rMin, rMax, rIxL, rIxX, rSetL, rAppend, rIxS, rSlS, rSlL, tSl, List.map_cons, List.map_nil, List.replicate_succ, List.replicate_zero, List.length_cons, List.length_nil, Nat.reduceSub, Nat.reduceAdd, Nat.zero_add, Nat.sub_self, List.getElem?_cons_zero, List.getElem?_cons_succ, List.set_cons_zero, List.set_cons_succ, List.append_nil, List.nil_append, List.cons_append, Option.some.injEq, not_true_eq_false, reduceCtorEq, exists_eq_left', exists_eq_left, exists_eq', exists_and_left, exists_and_right, V.int.injEq, V.str.injEq, V.bl.injEq, V.ref.injEq, List.cons.injEq, and_true, true_and, and_assoc, decide_eq_true_eq, Bool.not_eq_true', decide_eq_false_iff_not, ite_true, ite_false, if_true, if_false, Bool.not_true, Bool.not_false, Bool.false_eq_true, eq_self_iff_true, reduceIte, ne_eq, Int.reduceEq, not_false_eq_true])
local macro_rules | `(tactic| walk_at "rt") => `(tactic| try walk_at "rd")
local macro_rules | `(tactic| walk_at "st") => `(tactic| (walk_at "rt"; refine r_seq ?_; walk_at "rt"))
local macro_rules | `(tactic| walk_at "hp") => `(tactic| first | assumption | exact upd_same | (rw [upd_ne (by assumption)]; walk_at "hp"))
local macro_rules | `(tactic| walk_at "ex1") => `(tactic| ((with_reducible refine Exists.intro ?w (And.intro ?hx ?_)); (case hx => first | exact sq_of (by walk_at "hp") | exact .inl (sq_of (by walk_at "hp")) | exact rfl | (show _ = some (HO.lst _); walk_at "hp"))))
local macro_rules | `(tactic| walk_at "ex") => `(tactic| repeat (first | walk_at "ex1" | walk_at "rd"))
abbrev s_asked : Stmt := topS 34
theorem sc_asked : FnScope ["text", "e"] ["text"] (defScope s_asked) := ⟨rfl, rfl, rfl, by decide +kernel, rfl, by decide +kernel, by decide +kernel⟩
abbrev s_readright : Stmt := topS 35
theorem sc_readright : FnScope ["text", "told", "fault"] ["text"] (defScope s_readright) := ⟨rfl, rfl, rfl, by decide +kernel, rfl, by decide +kernel, by decide +kernel⟩
abbrev s_writtenright : Stmt := topS 36
theorem sc_writtenright : FnScope ["tree", "text"] ["tree", "text"] (defScope s_writtenright) := ⟨rfl, rfl, rfl, by decide +kernel, rfl, by decide +kernel, by decide +kernel⟩
abbrev s_counted : Stmt := topS 38
theorem sc_counted : FnScope ["tree"] ["tree"] (defScope s_counted) := ⟨rfl, rfl, rfl, by decide +kernel, rfl, by decide +kernel, by decide +kernel⟩
def spAsk : Sp := fun vs H Q _ => ∃ z : Str, vs = [.str z] ∧ z.length ≤ 1000000 ∧
  (∀ u r H' f, fault (tl z) = none → Keeps H H' → f.good → f.tx = tl z → f.dep ≤ 13 → TrA H' (fun p => H p = none) f (.ref r) → H u = none → H' u = some (.tup [.str (Str.ofString "gave"), .ref r]) → Q (.ref u) H') ∧
  (∀ k : Nat, fault (tl z) = some k → ∀ u H', Keeps H H' → H' u = some (.tup [.str (Str.ofString "raised"), .int k, .bl true]) → Q (.ref u) H')
def spWr : Sp := fun vs H Q _ => ∃ v f z, vs = [v, .str z] ∧ Tr H f v ∧ f.dep ≤ 13 ∧ f.tx.length ≤ 1000000 ∧ f.tx = tl z ∧ ∀ H', Keeps H H' → Q (.bl true) H'
def spCn : Sp := fun vs H Q _ => ∃ v f, vs = [v] ∧ Tr H f v ∧ f.dep ≤ 13 ∧ f.tx.length ≤ 1000000 ∧ ∀ H', Keeps H H' → Q (.bl true) H'
def spRR : Sp := fun vs H Q _ => ∃ z : Str, vs = [.str z] ∧ z.length ≤ 1000000 ∧ ∀ H', Keeps H H' → Q (.bl true) H'
theorem keep_tup {H : Hp} {u : Addr} {x : HO} (h : H u = none) : Keeps H (L2.upd H u x) := Keeps.new h
section
variable {P : Program} {w : World} {K : PySem.W.Frag} {mg : Str → Option Value} {base : Heap}
theorem ok_asked {C fI f f_rt : Addr} {fd fd_rt : FuncData} {c_TworoomsError : Addr} (B : Bi mg) (D : Dn K mg "_law_asked" s_asked ["text"] f fd) (D_readtree : Dn K mg "read_tree" s_readtree ["text"] f_rt fd_rt)
    (X_BadTree : Exn K mg "BadTree" C fI) (XF_BadTree : XfC K C) (XC_BadTree : ExcC K C) (no_BadTree_at : PySem.W.findIn K (.ref C) "at" = some none)
    (me : PySem.W.exmOne K (.ref C) (.ref C) = some true) (gc_TworoomsError : mg "TworoomsError" = some (.ref c_TworoomsError)) (kT : PySem.W.kitOne K (.ref C) (.ref c_TworoomsError) = some true)
    (G_readtree : FnOk P w K mg base (L2N.CX P w) 4 f_rt fd_rt ["text"] (spRead C)) : FnOk P w K mg base CX0 5 f fd ["text"] spAsk := by
  refine D.F.ok sc_asked (fun vs H Q E h => ?_) (fun cdv A outer s H vs Q E hr h => ?_)
  · obtain ⟨z, rfl, _⟩ := h
    rfl
  · obtain ⟨z, rfl, hz, h1, h2⟩ := h
    refine ⟨_, (pss_one (L2N.ps_try_as (i := 1) (Wout := fun _ _ _ _ => False) rfl rfl sc_asked.nd rfl rfl ⟨rfl, by decide, Or.inl X_BadTree.g⟩ takesN0
        (fun W pn xe tk hpo => by exact (pss_one (ps_ret (pe_tup (pa_cons pe_str (pa_cons (pe_callS G_readtree (hr.mono (by omega)) rfl D_readtree.g D_readtree.F.kp D_readtree.b (fun σ => L2N.passAt tk σ) (pa_cons (pv 0) pa_nil)) pa_nil))))))
        (fun a oe cls d pn hz hf => by exact (pss_one (ps_ret (pe_tup (pa_cons pe_str (pa_cons (pe_xf XF_BadTree no_BadTree_at hz.zc hf (pv 1)) (pa_cons (pe_callB (call_isZ (K := K) XC_BadTree List.mem_cons_self hz hf) (by rfl) B.isinstance (by decide +kernel) (pa_cons (pv 1) (pa_cons (pe_glob (v := .ref c_TworoomsError) (by rfl) gc_TworoomsError rfl) pa_nil))) pa_nil))))))))), ?_⟩
    walk_at "rt"
    refine ⟨z, rfl, hz, fun r H' f e k g1 g2 g3 g4 => ?_, fun k e H' kp d nd => ⟨true, me, fun _ a na => ?_, fun e => Bool.noConfusion e⟩⟩
    · exact ⟨by rw [PySem.sizeLine_eq]; decide, fun u nu => h1 u r _ f e (k.put (k.free nu)) g1 g2 g3 (g4.keep (Keeps.new nu)) (k.free nu) upd_same⟩
    · walk_at "rt"
      have lk : ([(("at" : Str), V.int (k : Int))] : List (Str × V)).lookup ("at" : Str) = some (V.int k) := by simp [List.lookup]
      refine ⟨_, rfl, rfl, rfl, d, _, _, rfl, upd_same, lk, r_isZ kT (fun dx e => ⟨_, by cases e; exact upd_same⟩) ?_⟩
      walk_at "rt"
      exact ⟨by rw [PySem.sizeLine_eq]; decide, fun u nu => h2 k e u _ ((kp.trans (Keeps.new nd)).trans (Keeps.new nu)) upd_same⟩
theorem ok_writtenright {f f_tg f_tt f_wt f_same : Addr} {fd fd_tg fd_tt fd_wt fd_same : FuncData} (B : Bi mg) (D : Dn K mg "_law_written_right" s_writtenright ["tree", "text"] f fd) (D_twigs : Dn K mg "_law_twigs" s_twigs ["tree"] f_tg fd_tg)
    (D_treetext : Dn K mg "_law_tree_text" s_treetext ["tree"] f_tt fd_tt) (D_writetree : Dn K mg "write_tree" s_writetree ["tree"] f_wt fd_wt) (D_same : Dn K mg "_law_same" s_same ["one", "two"] f_same fd_same)
    (G_twigs : FnOk P w K mg base CX0 15 f_tg fd_tg ["tree"] (spTwg 14)) (G_treetext : FnOk P w K mg base CX0 15 f_tt fd_tt ["tree"] (spT Rtx 14)) (G_writetree : FnOk P w K mg base CX0 15 f_wt fd_wt ["tree"] (spT Rtx 14)) (G_same : FnOk P w K mg base CX0 62 f_same fd_same ["one", "two"] (spSame 30)) :
    FnOk P w K mg base CX0 63 f fd ["tree", "text"] spWr := by
  refine D.F.ok sc_writtenright (fun vs H Q E h => ?_) (fun cdv A outer s H vs Q E hr h => ?_)
  · obtain ⟨v, f, z, rfl, _⟩ := h
    rfl
  · obtain ⟨v, f, z, rfl, ht, hd, hl, hz, q⟩ := h
    refine ⟨_, (pss_cons (ps_if (PW.pt (pw_or (pt_not (pt_val (pe_call G_twigs (hr.mono (by omega)) (by rfl) D_twigs.g D_twigs.F.kp D_twigs.b .nil pass0 (pa_cons (pv 0) pa_nil)))) (pw_or1 (pt_cmpR op_ne (pe_call G_treetext (hr.mono (by omega)) (by rfl) D_treetext.g D_treetext.F.kp D_treetext.b .nil pass0 (pa_cons (pv 0) pa_nil)) (pv 1) (nomark _))))) (pss_one (ps_ret pe_bl)) pss_nil)
      (pss_one (ps_ret (pe_call G_same (hr.mono (by omega)) (by rfl) D_same.g D_same.F.kp D_same.b .nil pass0 (pa_cons (pe_call G_writetree (hr.mono (by omega)) (by rfl) D_writetree.g D_writetree.F.kp D_writetree.b .nil pass0 (pa_cons (pv 0) pa_nil)) (pa_cons (pv 1) pa_nil)))))), ?_⟩
    walk_at "st"
    refine ⟨v, f, rfl, ht, hd, ?_⟩
    walk_at "rt"
    refine ⟨v, f, rfl, ht, hd, hl, fun H1 k1 => ?_⟩
    have e : S f.tx = z := by rw [hz, S_tl]
    walk_at "rt"
    refine ite2 (fun g => absurd e g) (fun _ => ?_)
    walk_at "rt"
    refine ⟨v, f, rfl, ht.keep k1, hd, hl, fun H2 k2 => ?_⟩
    walk_at "rt"
    refine same_ok (d := .str z) ?_ rfl (Nat.zero_le _) ?_
    · show V.str (S f.tx) = _
      rw [e]
    · exact q _ (k1.trans k2)
theorem ok_counted {f f_tp f_td f_lp f_ld f_same : Addr} {fd fd_tp fd_td fd_lp fd_ld fd_same : FuncData} (B : Bi mg) (D : Dn K mg "_law_counted" s_counted ["tree"] f fd) (D_treepairs : Dn K mg "tree_pairs" s_treepairs ["tree"] f_tp fd_tp) (D_treedepth : Dn K mg "tree_depth" s_treedepth ["tree"] f_td fd_td)
    (D_Ltreepairs : Dn K mg "_law_tree_pairs" s_Ltreepairs ["tree"] f_lp fd_lp) (D_treedeep : Dn K mg "_law_tree_deep" s_treedeep ["tree"] f_ld fd_ld) (D_same : Dn K mg "_law_same" s_same ["one", "two"] f_same fd_same)
    (G_treepairs : FnOk P w K mg base CX0 15 f_tp fd_tp ["tree"] (spT Rcn 14)) (G_treedepth : FnOk P w K mg base CX0 15 f_td fd_td ["tree"] (spT Rdp 14)) (G_Ltreepairs : FnOk P w K mg base CX0 15 f_lp fd_lp ["tree"] (spT Rcn 14)) (G_treedeep : FnOk P w K mg base CX0 15 f_ld fd_ld ["tree"] (spT Rdp 14))
    (G_same : FnOk P w K mg base CX0 62 f_same fd_same ["one", "two"] (spSame 30)) : FnOk P w K mg base CX0 63 f fd ["tree"] spCn := by
  refine D.F.ok sc_counted (fun vs H Q E h => ?_) (fun cdv A outer s H vs Q E hr h => ?_)
  · obtain ⟨v, f, rfl, _⟩ := h
    rfl
  · obtain ⟨v, f, rfl, ht, hd, hl, q⟩ := h
    refine ⟨_, (pss_one (ps_ret (pe_call G_same (hr.mono (by omega)) (by rfl) D_same.g D_same.F.kp D_same.b .nil pass0 (pa_cons (pe_lst (pa_cons (pe_call G_treepairs (hr.mono (by omega)) (by rfl) D_treepairs.g D_treepairs.F.kp D_treepairs.b .nil pass0 (pa_cons (pv 0) pa_nil)) (pa_cons (pe_call G_treedepth (hr.mono (by omega)) (by rfl) D_treedepth.g D_treedepth.F.kp D_treedepth.b .nil pass0 (pa_cons (pv 0) pa_nil)) pa_nil))) (pa_cons (pe_lst (pa_cons (pe_call G_Ltreepairs (hr.mono (by omega)) (by rfl) D_Ltreepairs.g D_Ltreepairs.F.kp D_Ltreepairs.b .nil pass0 (pa_cons (pv 0) pa_nil)) (pa_cons (pe_call G_treedeep (hr.mono (by omega)) (by rfl) D_treedeep.g D_treedeep.F.kp D_treedeep.b .nil pass0 (pa_cons (pv 0) pa_nil)) pa_nil))) pa_nil))))), ?_⟩
    walk_at "rt"
    refine ⟨v, f, rfl, ht, hd, hl, fun H1 k1 => ?_⟩
    walk_at "rt"
    refine ⟨v, f, rfl, ht.keep k1, hd, hl, fun H2 k2 => ?_⟩
    walk_at "rt"
    refine ⟨by rw [PySem.sizeLine_eq]; decide, fun x nx => ?_⟩
    have kx : Keeps H2 (L2.upd H2 x (.lst [.int (icnt f), .int (idep f)])) := Keeps.new nx
    have hx : L2.upd H2 x (.lst [.int (icnt f), .int (idep f)]) x = _ := upd_same
    generalize L2.upd H2 x (.lst [.int (icnt f), .int (idep f)]) = H3 at kx hx ⊢
    refine ⟨v, f, rfl, ht.keep ((k1.trans k2).trans kx), hd, hl, fun H4 k4 => ?_⟩
    walk_at "rt"
    refine ⟨v, f, rfl, ht.keep (((k1.trans k2).trans kx).trans k4), hd, hl, fun H5 k5 => ?_⟩
    walk_at "rt"
    refine ⟨by rw [PySem.sizeLine_eq]; decide, fun y ny => ?_⟩
    refine same_ok (d := .lst [.int (icnt f), .int (idep f)]) (at_lst ((Keeps.new ny) _ _ (k5 _ _ (k4 _ _ hx))) (Nat.le_of_ble_eq_true rfl) ⟨_, _, rfl, rfl, _, _, rfl, rfl, rfl⟩) (at_lst upd_same (Nat.le_of_ble_eq_true rfl) ⟨_, _, rfl, rfl, _, _, rfl, rfl, rfl⟩) (Nat.le_of_ble_eq_true rfl) ?_
    exact q _ ((((k1.trans k2).trans kx).trans k4).trans (k5.trans (Keeps.new ny)))
theorem ok_readright {f f_asked f_tf f_wr f_same : Addr} {fd fd_asked fd_tf fd_wr fd_same : FuncData} (B : Bi mg) (D : Dn K mg "_law_read_right" s_readright ["text"] f fd) (D_asked : Dn K mg "_law_asked" s_asked ["text"] f_asked fd_asked) (D_treefault : Dn K mg "_law_tree_fault" s_treefault ["text"] f_tf fd_tf)
    (D_writtenright : Dn K mg "_law_written_right" s_writtenright ["tree", "text"] f_wr fd_wr) (D_same : Dn K mg "_law_same" s_same ["one", "two"] f_same fd_same)
    (G_asked : FnOk P w K mg base CX0 5 f_asked fd_asked ["text"] spAsk) (G_treefault : FnOk P w K mg base CX0 2 f_tf fd_tf ["text"] spFault) (G_writtenright : FnOk P w K mg base CX0 63 f_wr fd_wr ["tree", "text"] spWr) (G_same : FnOk P w K mg base CX0 62 f_same fd_same ["one", "two"] (spSame 30)) :
    FnOk P w K mg base CX0 64 f fd ["text"] spRR := by
  refine D.F.ok sc_readright (fun vs H Q E h => ?_) (fun cdv A outer s H vs Q E hr h => ?_)
  · obtain ⟨z, rfl, _⟩ := h
    rfl
  · obtain ⟨z, rfl, hz, q⟩ := h
    refine ⟨_, (pss_cons (ps_set (i := 1) sc_readright.nd rfl (.inl rfl) (pe_call G_asked (hr.mono (by omega)) (by rfl) D_asked.g D_asked.F.kp D_asked.b .nil pass0 (pa_cons (pv 0) pa_nil)))
      (pss_cons (ps_set (i := 2) sc_readright.nd rfl (.inl rfl) (pe_call G_treefault (hr.mono (by omega)) (by rfl) D_treefault.g D_treefault.F.kp D_treefault.b .nil pass0 (pa_cons (pv 0) pa_nil)))
      (pss_cons (ps_if (pt_cmpR op_notN (pv 2) pe_non (nomark _)) (pss_one (ps_ret (pe_call G_same (hr.mono (by omega)) (by rfl) D_same.g D_same.F.kp D_same.b .nil pass0 (pa_cons (pv 1) (pa_cons (pe_tup (pa_cons pe_str (pa_cons (pv 2) (pa_cons pe_bl pa_nil)))) pa_nil))))) pss_nil)
      (pss_one (ps_ret (pe_and (pe_cmpR op_eq (pe_ix (ix_sxK (K := K)) (pv 1) pe_int (fun _ _ => rfl)) pe_str (nomark _)) (pe_one (pe_call G_writtenright (hr.mono (by omega)) (by rfl) D_writtenright.g D_writtenright.F.kp D_writtenright.b .nil pass0 (pa_cons (pe_ix (ix_sxK (K := K)) (pv 1) pe_int (fun _ _ => rfl)) (pa_cons (pv 0) pa_nil)))))))))), ?_⟩
    have hlen : z.length = (tl z).length := len_tl z
    walk_at "st"
    refine ⟨z, rfl, hz, fun u r H1 f e k1 g1 g2 g3 g4 nu hu => ?_, fun k e u H1 k1 hu => ?_⟩
    · walk_at "st"
      refine ⟨z, rfl, hz, ?_⟩
      rw [e]
      walk_at "st"
      refine ite2 (fun g => absurd rfl g) (fun _ => ⟨_, .inr (.inl (.inl hu)), _, rfl, rfl, ite2 (fun _ => ⟨_, .inr (.inl (.inl hu)), _, rfl, ?_⟩) (fun g => absurd rfl g)⟩)
      exact ⟨.ref r, f, z, rfl, g4.any, g3, by rw [g2, ← hlen]; exact hz, g2, fun H' k => q _ (k1.trans k)⟩
    · walk_at "st"
      refine ⟨z, rfl, hz, ?_⟩
      rw [e]
      walk_at "st"
      refine ite2 (fun _ => ⟨by rw [PySem.sizeLine_eq]; decide, fun p np => ?_⟩) (fun g => absurd (Classical.byContradiction g) (fun z => nomatch z))
      refine same_ok (d := .tup [.str (Str.ofString "raised"), .int k, .bl true]) (at_tup ((Keeps.new np) _ _ hu) (Nat.le_of_ble_eq_true rfl) ⟨_, _, rfl, rfl, _, _, rfl, rfl, _, _, rfl, rfl, rfl⟩) (at_tup upd_same (Nat.le_of_ble_eq_true rfl) ⟨_, _, rfl, rfl, _, _, rfl, rfl, _, _, rfl, rfl, rfl⟩) (Nat.le_of_ble_eq_true rfl) (q _ (k1.trans (Keeps.new np)))
end
end K01
namespace K01
open PySem PySem.Spec PyProof.Rows L2 TL HotExc Tw
local macro_rules | `(tactic| walk_at "rd") => `(tactic| simp only [start1, wipe, isR, isBool, isInt, isStr, isLst, isTup, tAsg, gName, gSub, tVar, tC, tOp, tUn, tTest, tIfS, tRet, tRetN, tDrop, tB, tAnd, tOr, tNot, tAndV, tOrV, tNotV, tIf, tCB, tCons, tNil, tNext, tCall, tBM, tTup, tLst, rU, rInW, rNinW, Int.reduceNeg, tG, tG2, sP, tDisp, tPairs, tCallS, tCallSD, tCallT, StX.tStar, tCallK, tCallKS, rTupOf, tDrop, rI0, rI, rEq, rNe, scal, forR_eq, forR2_eq, forS_eq, forL_eq, lcT_eq, lcRT_eq, lcS_eq, rLenX, rLenS, rListOf, tRevL, rMulS, rRepL, rCatL, rSumN, rMaxN, tBM0, rPop, tAug, ipI,  tPart, tNoPart, CwR.tReplC, rAllK, rInSg, rNinSg, sgn_inj, rAddS, rInSt, tChain, tM1, tM0, rSplitN, rJoinN, exists_eq, rIntI, rIntB, rIntS, rStrI, rAbs, rOrd, rMin, rMax, rIxL, rIxX, rSetL, rAppend, rIxS, rSlS, rSlL, tSl, List.map_cons, List.map_nil, List.replicate_succ, List.replicate_zero, List.length_cons, List.length_nil, Nat.reduceSub, Nat.reduceAdd, Nat.zero_add, Nat.sub_self, List.getElem?_cons_zero, List.getElem?_cons_succ, List.set_cons_zero, List.set_cons_succ, List.append_nil, List.nil_append, List.cons_append, Option.some.injEq, not_true_eq_false, reduceCtorEq, exists_eq_left', exists_eq_left, exists_eq', exists_and_left, exists_and_right, V.int.injEq, V.str.injEq, V.bl.injEq, V.ref.injEq, List.cons.injEq, and_true, true_and, and_assoc, decide_eq_true_eq, Bool.not_eq_true', decide_eq_false_iff_not, ite_true, ite_false, if_true, if_false, Bool.not_true, Bool.not_false, Bool.false_eq_true, eq_self_iff_true, reduceIte, ne_eq, Int.reduceEq, not_false_eq_true])
local macro_rules | `(tactic| walk_at "rt") => `(tactic| try walk_at "rd")
local macro_rules | `(tactic| walk_at "st") => `(tactic| (walk_at "rt"; refine r_seq ?_; walk_at "rt"))
local macro_rules | `(tactic| walk_at "hp") => `(tactic| first | assumption | exact upd_same | (rw [upd_ne (by assumption)]; walk_at "hp"))
local macro_rules | `(tactic| walk_at "ex1") => `(tactic| ((with_reducible refine Exists.intro ?w (And.intro ?hx ?_)); (case hx => first | exact sq_of (by walk_at "hp") | exact .inl (sq_of (by walk_at "hp")) | exact rfl | (show _ = some (HO.lst _); walk_at "hp"))))
local macro_rules | `(tactic| walk_at "ex") => `(tactic| repeat (first | walk_at "ex1" | walk_at "rd"))
abbrev s_spoilttree : Stmt := topS 33
theorem sc_spoilttree : FnScope ["store", "text", "kind", "at", "sign", "many"] ["store", "text"] (defScope s_spoilttree) := ⟨rfl, rfl, rfl, by decide +kernel, rfl, by decide +kernel, by decide +kernel⟩
def ShortT (v : V) : Prop := ∃ y : Str, v = .str y ∧ y.length ≤ 500000
def spSpl : Sp := fun vs H Q _ => ∃ (a c : Addr) (z : Str), vs = [.ref a, .str z] ∧ StoreAt H a c ∧ z.length ≤ 200000 ∧ Drawn H a c ShortT Q
theorem cut_len (z : Str) (lo hi : Option Int) : (cutS z lo hi).length ≤ z.length := by
  rw [len_tl, len_tl z]
  show (List.take _ (List.drop _ (tl z))).length ≤ _
  rw [List.length_take, List.length_drop]
  omega
theorem app_len (x y : Str) : (x ++ y).length = x.length + y.length := by rw [len_tl, tl_append, List.length_append, ← len_tl, ← len_tl]
def shortB (v : V) : Bool := match v with | .str y => decide (y.length ≤ 10) | _ => false
theorem short_all {vs : List V} (h : vs.all shortB = true) {v : V} (hv : v ∈ vs) : ∃ y : Str, v = .str y ∧ y.length ≤ 10 := by
  have := List.all_eq_true.mp h v hv
  cases v with
  | str y => exact ⟨y, rfl, by simpa [shortB] using this⟩
  | _ => cases this
section
variable {P : Program} {w : World} {K : PySem.W.Frag} {mg : Str → Option Value} {base : Heap}
theorem ok_spoilttree {f f_take f_chance f_pick : Addr} {fd fd_take fd_chance fd_pick : FuncData} (B : Bi mg) (D : Dn K mg "_law_spoilt_tree" s_spoilttree ["store", "text"] f fd) (D_take : Dn K mg "_law_take" s_take ["store", "many"] f_take fd_take)
    (D_chance : Dn K mg "_law_chance" s_chance ["store", "many"] f_chance fd_chance) (D_pick : Dn K mg "_law_pick" s_pick ["store", "row"] f_pick fd_pick)
    (G_take : FnOk P w K mg base CX0 2 f_take fd_take ["store", "many"] spTake) (G_chance : FnOk P w K mg base CX0 3 f_chance fd_chance ["store", "many"] spChance) (G_pick : FnOk P w K mg base CX0 3 f_pick fd_pick ["store", "row"] spPick) (G_pickL : FnOk P w K mg base CX0 3 f_pick fd_pick ["store", "row"] spPickL) :
    FnOk P w K mg base CX0 4 f fd ["store", "text"] spSpl := by
  refine D.F.ok sc_spoilttree (fun vs H Q E h => ?_) (fun cdv A outer s H vs Q E hr h => ?_)
  · obtain ⟨a, c, z, rfl, _⟩ := h
    rfl
  · obtain ⟨a, c, z, rfl, S0, hz, q⟩ := h
    refine ⟨_, (pss_cons (ps_set (i := 2) sc_spoilttree.nd rfl (.inl rfl) (pe_call G_take (hr.mono (by omega)) (by rfl) D_take.g D_take.F.kp D_take.b .nil pass0 (pa_cons (pv 0) (pa_cons pe_int pa_nil))))
      (pss_cons (ps_set (i := 3) sc_spoilttree.nd rfl (.inl rfl) (pe_call G_take (hr.mono (by omega)) (by rfl) D_take.g D_take.F.kp D_take.b .nil pass0 (pa_cons (pv 0) (pa_cons (pe_op op_add (pe_callB call_lenS (by rfl) B.len PySem.boot_len (pa_cons (pv 1) pa_nil)) pe_int) pa_nil))))
      (pss_cons (ps_set (i := 4) sc_spoilttree.nd rfl (.inl rfl) (pe_call G_pick (hr.mono (by omega)) (by rfl) D_pick.g D_pick.F.kp D_pick.b .nil pass0 (pa_cons (pv 0) (pa_cons pe_str pa_nil))))
      (pss_cons (ps_set (i := 5) sc_spoilttree.nd rfl (.inl rfl) (pe_op op_add pe_int (pe_call G_take (hr.mono (by omega)) (by rfl) D_take.g D_take.F.kp D_take.b .nil pass0 (pa_cons (pv 0) (pa_cons pe_int pa_nil)))))
      (pss_cons (ps_if (pt_cmpR op_eq (pv 2) pe_int (nomark _)) (pss_one (ps_ret (pe_op op_addS (pe_op op_addS (pe_op op_mulS pe_str (pv 5)) (pv 1)) (pe_op op_mulS pe_str (pe_op op_sub (pv 5) (pe_call G_take (hr.mono (by omega)) (by rfl) D_take.g D_take.F.kp D_take.b .nil pass0 (pa_cons (pv 0) (pa_cons pe_int pa_nil)))))))) pss_nil)
      (pss_cons (ps_if (pt_cmpR op_eq (pv 2) pe_int (nomark _)) (pss_one (ps_ret (pe_op op_addS (pe_op op_addS (pv 1) pe_str) (pe_call G_pickL (hr.mono (by omega)) (by rfl) D_pick.g D_pick.F.kp D_pick.b .nil pass0 (pa_cons (pv 0) (pa_cons (pe_lst (pa_cons pe_str (pa_cons pe_str (pa_cons pe_str (pa_cons pe_str (pa_cons pe_str pa_nil)))))) pa_nil)))))) pss_nil)
      (pss_cons (ps_if (pt_cmpR op_eq (pv 2) pe_int (nomark _)) (pss_cons (ps_if (pt_val (pe_call G_chance (hr.mono (by omega)) (by rfl) D_chance.g D_chance.F.kp D_chance.b .nil pass0 (pa_cons (pv 0) (pa_cons pe_int pa_nil)))) (pss_one (ps_ret (pe_op op_addS (pe_op op_mulS pe_str (pe_op op_add pe_int (pv 5))) (pe_call G_pickL (hr.mono (by omega)) (by rfl) D_pick.g D_pick.F.kp D_pick.b .nil pass0 (pa_cons (pv 0) (pa_cons (pe_lst (pa_cons pe_str (pa_cons pe_str (pa_cons pe_str pa_nil)))) pa_nil)))))) pss_nil)
      (pss_one (ps_ret (pe_op op_addS (pe_op op_mulS pe_str (pv 5)) (pe_call G_pickL (hr.mono (by omega)) (by rfl) D_pick.g D_pick.F.kp D_pick.b .nil pass0 (pa_cons (pv 0) (pa_cons (pe_lst (pa_cons pe_str (pa_cons pe_str (pa_cons pe_str (pa_cons pe_str pa_nil))))) pa_nil))))))) pss_nil)
      (pss_cons (ps_if (pt_cmpR op_lt (pv 2) pe_int (nomark _)) (pss_one (ps_ret (pe_op op_addS (pe_op op_addS (pe_slice sl_str (pv 1) po_none (po_some (pv 3))) (pv 4)) (pe_slice sl_str (pv 1) (po_some (pe_op op_add (pv 3) pe_int)) po_none)))) pss_nil)
      (pss_cons (ps_if (pt_cmpR op_lt (pv 2) pe_int (nomark _)) (pss_one (ps_ret (pe_op op_addS (pe_op op_addS (pe_slice sl_str (pv 1) po_none (po_some (pv 3))) (pv 4)) (pe_slice sl_str (pv 1) (po_some (pv 3)) po_none)))) pss_nil)
      (pss_cons (ps_if (pt_cmpR op_eq (pv 2) pe_int (nomark _)) (pss_one (ps_ret (pe_slice sl_str (pv 1) po_none (po_some (pv 3))))) pss_nil)
      (pss_one (ps_ret (pe_op op_addS (pe_slice sl_str (pv 1) po_none (po_some (pv 3))) (pe_slice sl_str (pv 1) (po_some (pe_op op_add (pv 3) pe_int)) po_none)))))))))))))), ?_⟩
    walk_at "st"
    refine ⟨a, c, _, rfl, S0, by decide, fun v H1 S1 b1 ⟨kind, e, k0, k1⟩ => ?_⟩
    subst e
    walk_at "st"
    refine ⟨line_of (by omega), a, c, _, rfl, S1, by omega, fun v H2 S2 b2 ⟨at_, e, a0, a1⟩ => ?_⟩
    subst e
    walk_at "st"
    refine ⟨a, c, _, rfl, S2, by decide +kernel, by decide +kernel, fun v H3 S3 b3 ⟨k, _, e⟩ => ?_⟩
    subst e
    walk_at "st"
    refine ⟨a, c, _, rfl, S3, by decide, fun v H4 S4 b4 ⟨m, e, m0, m1⟩ => ?_⟩
    subst e
    have one : ({ cps := #[k] } : Str).length = 1 := rfl
    have hc := fun lo hi => cut_len z lo hi
    have b14 := (b1.trans b2).trans (b3.trans b4)
    generalize ({ cps := #[k] } : Str) = sg at one
    walk_at "st"
    refine ite2 (fun _ => ?_) (fun _ => ?_)
    · refine ⟨2, by decide +kernel, 15, by omega, by omega, by decide, by decide, ?_⟩
      have g1 := mul_le (z := Str.ofString "a(") (n := 12 + m) (L := 2) (N := 15) (by decide +kernel) (by omega)
      refine ⟨line_of (by omega), a, c, _, rfl, S4, by decide, fun v H5 S5 b5 ⟨x, e, x0, x1⟩ => ?_⟩
      have g2 := mul_le (z := Str.ofString ")") (n := 12 + m - x) (L := 1) (N := 15) (by decide +kernel) (by omega)
      refine ⟨x, e, 1, by decide +kernel, 15, by omega, by omega, by decide, by decide, line_of (by rw [app_len]; omega), ?_⟩
      exact q _ _ S5 (b14.trans b5) ⟨_, rfl, by rw [app_len, app_len]; omega⟩
    walk_at "st"
    refine ite2 (fun _ => ?_) (fun _ => ?_)
    · have g1 : (Str.ofString "abcdef").length ≤ 6 := by decide +kernel
      refine ⟨line_of (by omega), by rw [PySem.sizeLine_eq]; decide, fun p np => ?_⟩
      refine ⟨a, c, p, _, rfl, S4.new np, upd_same, S4.ne1 np, List.cons_ne_nil _ _, Nat.le_of_ble_eq_true rfl, fun v H5 S5 b5 hv => ?_⟩
      obtain ⟨y, rfl, hy⟩ := short_all (by decide +kernel) hv
      refine ⟨y, rfl, line_of (by rw [app_len]; omega), ?_⟩
      exact q _ _ S5 (b14.trans (But.pushNew np b5)) ⟨_, rfl, by rw [app_len, app_len]; omega⟩
    walk_at "st"
    refine ite2 (fun _ => ?_) (fun _ => ?_)
    · walk_at "st"
      refine ⟨a, c, _, rfl, S4, by decide, fun v H5 S5 b5 ⟨bb, e⟩ => ?_⟩
      subst e
      refine ⟨bb, rfl, ?_⟩
      cases bb with
      | true =>
        walk_at "rt"
        have g1 := mul_le (z := Str.ofString "a()") (n := 1987 + (12 + m)) (L := 3) (N := 2002) (by decide +kernel) (by omega)
        refine ⟨3, by decide +kernel, 2002, by omega, by omega, by decide, by decide, by rw [PySem.sizeLine_eq]; decide, fun p np => ?_⟩
        refine ⟨a, c, p, _, rfl, S5.new np, upd_same, S5.ne1 np, List.cons_ne_nil _ _, Nat.le_of_ble_eq_true rfl, fun v H6 S6 b6 hv => ?_⟩
        obtain ⟨y, rfl, hy⟩ := short_all (by decide +kernel) hv
        refine ⟨y, rfl, line_of (by omega), ?_⟩
        exact q _ _ S6 ((b14.trans b5).trans (But.pushNew np b6)) ⟨_, rfl, by rw [app_len]; omega⟩
      | false =>
        walk_at "rt"
        have g1 := mul_le (z := Str.ofString "a(") (n := 12 + m) (L := 2) (N := 15) (by decide +kernel) (by omega)
        refine ⟨2, by decide +kernel, 15, by omega, by omega, by decide, by decide, by rw [PySem.sizeLine_eq]; decide, fun p np => ?_⟩
        refine ⟨a, c, p, _, rfl, S5.new np, upd_same, S5.ne1 np, List.cons_ne_nil _ _, Nat.le_of_ble_eq_true rfl, fun v H6 S6 b6 hv => ?_⟩
        obtain ⟨y, rfl, hy⟩ := short_all (by decide +kernel) hv
        refine ⟨y, rfl, line_of (by omega), ?_⟩
        exact q _ _ S6 ((b14.trans b5).trans (But.pushNew np b6)) ⟨_, rfl, by rw [app_len]; omega⟩
    walk_at "st"
    refine ite2 (fun _ => ?_) (fun _ => ?_)
    · have g1 := hc none (some at_)
      have g2 := hc (some (at_ + 1)) none
      exact ⟨line_of (by omega), line_of (by omega), line_of (by omega), line_of (by rw [app_len]; omega), q _ _ S4 b14 ⟨_, rfl, by rw [app_len, app_len]; omega⟩⟩
    walk_at "st"
    refine ite2 (fun _ => ?_) (fun _ => ?_)
    · have g1 := hc none (some at_)
      have g2 := hc (some at_) none
      exact ⟨line_of (by omega), line_of (by omega), line_of (by omega), line_of (by rw [app_len]; omega), q _ _ S4 b14 ⟨_, rfl, by rw [app_len, app_len]; omega⟩⟩
    walk_at "st"
    refine ite2 (fun _ => ?_) (fun _ => ?_)
    · have g1 := hc none (some at_)
      exact ⟨line_of (by omega), q _ _ S4 b14 ⟨_, rfl, by omega⟩⟩
    walk_at "rt"
    have g1 := hc none (some at_)
    have g2 := hc (some (at_ + 1)) none
    exact ⟨line_of (by omega), line_of (by omega), line_of (by omega), q _ _ S4 b14 ⟨_, rfl, by rw [app_len]; omega⟩⟩
end
end K01
namespace K01
open PySem PySem.Spec PyProof.Rows L2 TL HotExc Tw
/-! ### trees that grow at any place -/
inductive G where
  | nil
  | cons (d : List Nat) (id : Nat) (s r : G)
def G.f : G → F
  | .nil => .nil
  | .cons d _ s r => .cons d s.f r.f
def G.ids : G → List Nat
  | .nil => []
  | .cons _ i s r => i :: (s.ids ++ r.ids)
def G.snoc : G → List Nat → Nat → G
  | .nil, d, m => .cons d m .nil .nil
  | .cons e i s r, d, m => .cons e i s (r.snoc d m)
def G.ins (k : Nat) (d : List Nat) (m : Nat) : G → G
  | .nil => .nil
  | .cons e i s r => if i = k then .cons e i (s.snoc d m) r else if k ∈ s.ids then .cons e i (G.ins k d m s) r else .cons e i s (G.ins k d m r)
theorem G.cnt_ids : ∀ g : G, g.f.cnt = g.ids.length
  | .nil => rfl
  | .cons d i s r => by
    simp only [G.f, F.cnt, G.ids, List.length_cons, List.length_append, G.cnt_ids s, G.cnt_ids r]
    omega
theorem G.ids_snoc : ∀ (g : G) (d : List Nat) (m : Nat), (g.snoc d m).ids.Perm (m :: g.ids)
  | .nil, d, m => .refl _
  | .cons e i s r, d, m => by
    simp only [G.snoc, G.ids]
    have h := G.ids_snoc r d m
    exact ((List.Perm.append_left s.ids h).cons i).trans ((List.perm_middle.cons i).trans (.swap m i _))
theorem G.ids_ins {k m : Nat} {d : List Nat} : ∀ g : G, k ∈ g.ids → (g.ins k d m).ids.Perm (m :: g.ids)
  | .nil, h => by cases h
  | .cons e i s r, h => by
    unfold G.ins
    by_cases h1 : i = k
    · rw [if_pos h1]
      simp only [G.ids]
      exact (((G.ids_snoc s d m).append_right r.ids).cons i).trans (.swap m i _)
    · rw [if_neg h1]
      by_cases h2 : k ∈ s.ids
      · rw [if_pos h2]
        simp only [G.ids]
        exact (((G.ids_ins s h2).append_right r.ids).cons i).trans (.swap m i _)
      · rw [if_neg h2]
        have h3 : k ∈ r.ids := by
          simp only [G.ids, List.mem_cons, List.mem_append] at h
          rcases h with h | h | h
          · exact absurd h.symm h1
          · exact absurd h h2
          · exact h
        simp only [G.ids]
        exact ((List.Perm.append_left s.ids (G.ids_ins r h3)).cons i).trans ((List.perm_middle.cons i).trans (.swap m i _))
theorem G.good_snoc : ∀ {g : G} {d : List Nat} {m : Nat}, g.f.good → okd d → (g.snoc d m).f.good
  | .nil, d, m, _, h => ⟨h, trivial, trivial⟩
  | .cons e i s r, d, m, ⟨h1, h2, h3⟩, h => ⟨h1, h2, G.good_snoc h3 h⟩
theorem G.good_ins {k m : Nat} {d : List Nat} (h : okd d) : ∀ {g : G}, g.f.good → (g.ins k d m).f.good
  | .nil, _ => trivial
  | .cons e i s r, ⟨h1, h2, h3⟩ => by
    unfold G.ins
    split
    · exact ⟨h1, G.good_snoc h2 h, h3⟩
    · split
      · exact ⟨h1, G.good_ins h h2, h3⟩
      · exact ⟨h1, h2, G.good_ins h h3⟩
/-- the depths of the nodes, as they are told -/
def G.lev (ds : List Nat) : Nat → G → Prop
  | _, .nil => True
  | j, .cons _ i s r => ds[i]? = some (j + 1) ∧ G.lev ds (j + 1) s ∧ G.lev ds j r
theorem G.lev_mono {ds es : List Nat} (h : ∀ (i x : Nat), ds[i]? = some x → es[i]? = some x) : ∀ {j : Nat} {g : G}, G.lev ds j g → G.lev es j g
  | _, .nil, _ => trivial
  | _, .cons _ i s r, ⟨h1, h2, h3⟩ => ⟨h _ _ h1, G.lev_mono h h2, G.lev_mono h h3⟩
theorem G.lev_dep {ds : List Nat} {deep : Nat} (h : ∀ x ∈ ds, x ≤ deep) : ∀ {j : Nat} {g : G}, G.lev ds j g → g.f.dep = 0 ∨ g.f.dep + j ≤ deep
  | _, .nil, _ => .inl rfl
  | j, .cons _ i s r, ⟨h1, h2, h3⟩ => by
    have a1 := h _ (List.mem_of_getElem? h1)
    have a2 := G.lev_dep h h2
    have a3 := G.lev_dep h h3
    simp only [G.f, F.dep]
    omega
theorem G.lev_snoc {ds : List Nat} {m : Nat} {d : List Nat} : ∀ {j : Nat} {g : G}, G.lev ds j g → ds[m]? = some (j + 1) → G.lev ds j (g.snoc d m)
  | _, .nil, _, h => ⟨h, trivial, trivial⟩
  | _, .cons _ i s r, ⟨h1, h2, h3⟩, h => ⟨h1, h2, G.lev_snoc h3 h⟩
theorem G.lev_ins {ds : List Nat} {k m x : Nat} {d : List Nat} (hk : ds[k]? = some x) (hm : ds[m]? = some (x + 1)) : ∀ {j : Nat} {g : G}, G.lev ds j g → G.lev ds j (g.ins k d m)
  | _, .nil, _ => trivial
  | j, .cons e i s r, ⟨h1, h2, h3⟩ => by
    unfold G.ins
    by_cases a : i = k
    · rw [if_pos a]
      rw [a, hk] at h1
      cases h1
      exact ⟨by rw [a]; exact hk, G.lev_snoc h2 hm, h3⟩
    · rw [if_neg a]
      split
      · exact ⟨h1, G.lev_ins hk hm h2, h3⟩
      · exact ⟨h1, h2, G.lev_ins hk hm h3⟩
/-- a tree at a list of pairs -/
def GAt (H : Hp) (A : Addr → Prop) (bx : List Addr) : G → List V → Prop
  | .nil, xs => xs = []
  | .cons d i s r, xs => ∃ t b ys rest, xs = .ref t :: rest ∧ A t ∧ H t = some (.tup [.str (S d), .ref b]) ∧ bx[i]? = some b ∧ A b ∧ H b = some (.lst ys) ∧ GAt H A bx s ys ∧ GAt H A bx r rest
theorem GAt.to {H H' : Hp} {A A' X : Addr → Prop} {bx bx' : List Addr} (hA : ∀ p, A p → H p ≠ none → A' p) (hX : ∀ p, A p → ¬ X p) (k : ∀ q x, ¬ X q → H q = some x → H' q = some x) (hb : ∀ (i : Nat) b, bx[i]? = some b → bx'[i]? = some b) : ∀ {g : G} {xs : List V}, GAt H A bx g xs → GAt H' A' bx' g xs
  | .nil, _, h => h
  | .cons d i s r, _, ⟨t, b, ys, rest, e, h1, h2, h3, h4, h5, h6, h7⟩ => ⟨t, b, ys, rest, e, hA t h1 (by rw [h2]; simp), k _ _ (hX t h1) h2, hb _ _ h3, hA b h4 (by rw [h5]; simp), k _ _ (hX b h4) h5, GAt.to hA hX k hb h6, GAt.to hA hX k hb h7⟩
theorem nodup_get {bx : List Addr} (h : bx.Nodup) {i j : Nat} {b : Addr} (hi : bx[i]? = some b) (hj : bx[j]? = some b) : i = j := by
  exact (List.getElem?_inj (lt_of_get hi) h).mp (hi.trans hj.symm)
/-- what stands at another place is not touched -/
theorem GAt.off {H H' : Hp} {A A' : Addr → Prop} {bx bx' : List Addr} {k : Nat} {b0 : Addr} {ys0 : List V} (nd : bx.Nodup) (hk : bx[k]? = some b0) (h0 : H b0 = some (.lst ys0)) (hA : ∀ p, A p → H p ≠ none → A' p) (kp : ∀ q x, A q → q ≠ b0 → H q = some x → H' q = some x) (hb : ∀ (i : Nat) b, bx[i]? = some b → bx'[i]? = some b) :
    ∀ {g : G} {xs : List V}, k ∉ g.ids → GAt H A bx g xs → GAt H' A' bx' g xs
  | .nil, _, _, h => h
  | .cons d i s r, _, hn, ⟨t, b, ys, rest, e, h1, h2, h3, h4, h5, h6, h7⟩ => by
    simp only [G.ids, List.mem_cons, List.mem_append, not_or] at hn
    have nt : t ≠ b0 := fun z => by rw [z, h0] at h2; cases h2
    have nb : b ≠ b0 := fun z => hn.1 (nodup_get nd (by rw [← z] at hk; exact hk) h3)
    exact ⟨t, b, ys, rest, e, hA t h1 (by rw [h2]; simp), kp _ _ h1 nt h2, hb _ _ h3, hA b h4 (by rw [h5]; simp), kp _ _ h4 nb h5, GAt.off nd hk h0 hA kp hb hn.2.1 h6, GAt.off nd hk h0 hA kp hb hn.2.2 h7⟩
theorem GAt.snoc {H : Hp} {A : Addr → Prop} {bx : List Addr} {d : List Nat} {m : Nat} {t b : Addr} (ht : A t) (h1 : H t = some (.tup [.str (S d), .ref b])) (hm : bx[m]? = some b) (hb : A b) (h2 : H b = some (.lst [])) : ∀ {g : G} {xs : List V}, GAt H A bx g xs → GAt H A bx (g.snoc d m) (xs ++ [.ref t])
  | .nil, _, h => by
    rw [show _ = [] from h]
    exact ⟨t, b, [], [], rfl, ht, h1, hm, hb, h2, rfl, rfl⟩
  | .cons e i s r, _, ⟨t', b', ys, rest, e', g1, g2, g3, g4, g5, g6, g7⟩ => by
    subst e'
    exact ⟨t', b', ys, rest ++ [.ref t], rfl, g1, g2, g3, g4, g5, g6, GAt.snoc ht h1 hm hb h2 g7⟩
theorem GAt.ins {H H' : Hp} {A A' : Addr → Prop} {bx bx' : List Addr} {k m : Nat} {b0 t b : Addr} {ys0 : List V} {d : List Nat} (nd : bx.Nodup) (hk : bx[k]? = some b0) (h0 : H b0 = some (.lst ys0)) (hA : ∀ p, A p → H p ≠ none → A' p) (kp : ∀ q x, A q → q ≠ b0 → H q = some x → H' q = some x) (hb : ∀ (i : Nat) b, bx[i]? = some b → bx'[i]? = some b)
    (ht : A' t) (h1 : H' t = some (.tup [.str (S d), .ref b])) (hm : bx'[m]? = some b) (hb' : A' b) (h2 : H' b = some (.lst [])) (h3 : H' b0 = some (.lst (ys0 ++ [.ref t]))) :
    ∀ {g : G} {xs : List V}, k ∈ g.ids → g.ids.Nodup → GAt H A bx g xs → GAt H' A' bx' (g.ins k d m) xs
  | .nil, _, hn, _, _ => by cases hn
  | .cons e i s r, _, hn, dn, ⟨t', b', ys, rest, e', g1, g2, g3, g4, g5, g6, g7⟩ => by
    subst e'
    simp only [G.ids] at hn dn
    obtain ⟨d1, d2⟩ := List.nodup_cons.mp dn
    obtain ⟨d3, d4, d5⟩ := List.nodup_append.mp d2
    have nt : t' ≠ b0 := fun z => by rw [z, h0] at g2; cases g2
    unfold G.ins
    by_cases a : i = k
    · rw [if_pos a]
      subst a
      rw [hk] at g3
      cases g3
      rw [h0] at g5
      cases g5
      simp only [List.mem_append, not_or] at d1
      exact ⟨t', b0, ys0 ++ [.ref t], rest, rfl, hA t' g1 (by rw [g2]; simp), kp _ _ g1 nt g2, hb _ _ hk, hA b0 g4 (by rw [h0]; simp), h3, GAt.snoc ht h1 hm hb' h2 (GAt.off nd hk h0 hA kp hb d1.1 g6), GAt.off nd hk h0 hA kp hb d1.2 g7⟩
    · rw [if_neg a]
      have nb : b' ≠ b0 := fun z => a (nodup_get nd (by rw [z] at g3; exact g3) hk)
      by_cases a2 : k ∈ s.ids
      · rw [if_pos a2]
        exact ⟨t', b', ys, rest, rfl, hA t' g1 (by rw [g2]; simp), kp _ _ g1 nt g2, hb _ _ g3, hA b' g4 (by rw [g5]; simp), kp _ _ g4 nb g5, GAt.ins nd hk h0 hA kp hb ht h1 hm hb' h2 h3 a2 d3 g6, GAt.off nd hk h0 hA kp hb (fun z => d5 _ a2 _ z rfl) g7⟩
      · rw [if_neg a2]
        have a3 : k ∈ r.ids := by
          simp only [List.mem_cons, List.mem_append] at hn
          rcases hn with h | h | h
          · exact absurd h.symm a
          · exact absurd h a2
          · exact h
        exact ⟨t', b', ys, rest, rfl, hA t' g1 (by rw [g2]; simp), kp _ _ g1 nt g2, hb _ _ g3, hA b' g4 (by rw [g5]; simp), kp _ _ g4 nb g5, GAt.off nd hk h0 hA kp hb a2 g6, GAt.ins nd hk h0 hA kp hb ht h1 hm hb' h2 h3 a3 d4 g7⟩
theorem GAt.len {H : Hp} {A : Addr → Prop} {bx : List Addr} : ∀ {g : G} {xs : List V}, GAt H A bx g xs → xs.length = g.f.len
  | .nil, _, h => by rw [show _ = [] from h]; rfl
  | .cons d i s r, _, ⟨t, b, ys, rest, e, _, _, _, _, _, _, h7⟩ => by rw [e, List.length_cons, h7.len, G.f, F.len, Nat.add_comm]
theorem GAt.data {H : Hp} {A : Addr → Prop} {bx : List Addr} : ∀ {g : G} {xs : List V}, g.f.cnt ≤ 1000000 → GAt H A bx g xs → AtL H A (Fd g.f) xs
  | .nil, _, _, h => h
  | .cons d i s r, _, hc, ⟨t, b, ys, rest, e, h1, h2, h3, h4, h5, h6, h7⟩ => by
    simp only [G.f, F.cnt] at hc
    have l1 := h6.len
    have l2 := len_cnt s.f
    exact ⟨_, rest, e, pr_to (p := (d, s.f)) ⟨t, .ref b, rfl, h1, h2, b, ys, rfl, h4, h5, by omega, GAt.data (by omega) h6⟩, GAt.data (by omega) h7⟩
end K01
namespace K01
open PySem PySem.Spec PyProof.Rows L2 TL HotExc Tw
theorem GAt.at {H : Hp} {A : Addr → Prop} {bx : List Addr} {k : Nat} : ∀ {g : G} {xs : List V}, k ∈ g.ids → GAt H A bx g xs → ∃ b ys, bx[k]? = some b ∧ A b ∧ H b = some (.lst ys) ∧ ys.length ≤ g.f.cnt
  | .nil, _, h, _ => by cases h
  | .cons d i s r, _, h, ⟨t, b, ys, rest, e, h1, h2, h3, h4, h5, h6, h7⟩ => by
    simp only [G.ids, List.mem_cons, List.mem_append] at h
    simp only [G.f, F.cnt]
    rcases h with rfl | h | h
    · have := h6.len
      have := len_cnt s.f
      exact ⟨b, ys, h3, h4, h5, by omega⟩
    · obtain ⟨b', ys', g1, g2, g3, g4⟩ := GAt.at h h6
      exact ⟨b', ys', g1, g2, g3, by omega⟩
    · obtain ⟨b', ys', g1, g2, g3, g4⟩ := GAt.at h h7
      exact ⟨b', ys', g1, g2, g3, by omega⟩
def vI (n : Nat) : V := .int (n : Int)
structure Ar (H0 H : Hp) (a B Dp : Addr) (deep : Nat) (bx : List Addr) (ds : List Nat) (g : G) (r : Addr) (xs : List V) (i : Nat) : Prop where
  bt : But a H0 H
  a0 : H0 a ≠ none
  B0 : H0 B = none
  D0 : H0 Dp = none
  ne : B ≠ Dp
  hB : H B = some (.lst (bx.map V.ref))
  hD : H Dp = some (.lst (ds.map vI))
  len : ds.length = bx.length
  nd : bx.Nodup
  fr : ∀ b ∈ bx, H0 b = none ∧ b ≠ B ∧ b ≠ Dp
  root : bx[0]? = some r
  hr : H r = some (.lst xs)
  gat : GAt H (fun p => H0 p = none ∧ p ≠ r ∧ p ≠ B ∧ p ≠ Dp) bx g xs
  idn : g.ids.Nodup
  idm : ∀ x, x ∈ g.ids ↔ 1 ≤ x ∧ x < bx.length
  idl : g.ids.length + 1 = bx.length
  lenle : bx.length ≤ i + 1
  good : g.f.good
  lev : g.lev ds 0
  dz : ds[0]? = some 0
  dd : ∀ x ∈ ds, x ≤ deep
theorem Ar.to {H0 H H' : Hp} {a B Dp : Addr} {deep : Nat} {bx : List Addr} {ds : List Nat} {g : G} {r : Addr} {xs : List V} {i : Nat} (R : Ar H0 H a B Dp deep bx ds g r xs i) (k : But a H H') : Ar H0 H' a B Dp deep bx ds g r xs i := by
  have na : ∀ q, H0 q = none → q ≠ a := fun q h z => R.a0 (by rw [← z]; exact h)
  have hr0 := (R.fr r (List.mem_of_getElem? R.root)).1
  exact { R with
    bt := R.bt.trans k
    hB := k _ _ (na _ R.B0) R.hB
    hD := k _ _ (na _ R.D0) R.hD
    hr := k _ _ (na _ hr0) R.hr
    gat := R.gat.to (X := fun q => q = a) (fun p h _ => h) (fun p h z => na p h.1 z) (fun q x h e => k q x h e) (fun _ _ h => h) }
theorem Ar.lst {H0 H : Hp} {a B Dp : Addr} {deep : Nat} {bx : List Addr} {ds : List Nat} {g : G} {r : Addr} {xs : List V} {i : Nat} (R : Ar H0 H a B Dp deep bx ds g r xs i) {k : Nat} (h : k < bx.length) : ∃ b ys, bx[k]? = some b ∧ H b = some (.lst ys) ∧ ys.length < bx.length := by
  have hc := R.idl
  have hl := G.cnt_ids g
  by_cases h0 : k = 0
  · subst h0
    have := R.gat.len
    have := len_cnt g.f
    exact ⟨r, xs, R.root, R.hr, by omega⟩
  · obtain ⟨b, ys, h1, _, h2, h3⟩ := R.gat.at ((R.idm k).mpr ⟨by omega, h⟩)
    exact ⟨b, ys, h1, h2, by omega⟩
theorem getElem?_snoc {α : Type} {l : List α} {x : α} : (l ++ [x])[l.length]? = some x := by simp
theorem getElem?_left {α : Type} {l m : List α} {i : Nat} {x : α} (h : l[i]? = some x) : (l ++ m)[i]? = some x := by rw [List.getElem?_append_left (lt_of_get h)]; exact h
theorem Ar.grow {H0 H : Hp} {a B Dp : Addr} {deep : Nat} {bx : List Addr} {ds : List Nat} {g : G} {r : Addr} {xs : List V} {i : Nat} (R : Ar H0 H a B Dp deep bx ds g r xs i) {k x : Nat} {b0 e t : Addr} {ys : List V} {d : List Nat} (od : okd d)
    (hk : bx[k]? = some b0) (hy : H b0 = some (.lst ys)) (hx : ds[k]? = some x) (hxd : x + 1 ≤ deep) (Ha : H a ≠ none) (he : H e = none) {H3 H4 : Hp} (e3 : H3 = L2.upd (L2.upd (L2.upd H e (.lst [])) B (.lst (bx.map V.ref ++ [.ref e]))) Dp (.lst (ds.map vI ++ [vI (x + 1)]))) (ht : H3 t = none)
    (e4 : H4 = L2.upd (L2.upd H3 t (.tup [.str (S d), .ref e])) b0 (.lst (ys ++ [.ref t]))) : ∃ g' xs', Ar H0 H4 a B Dp deep (bx ++ [e]) (ds ++ [x + 1]) g' r xs' (i + 1) := by
  have na : ∀ q, H0 q = none → q ≠ a := fun q h z => R.a0 (by rw [← z]; exact h)
  have m0 := List.mem_of_getElem? hk
  obtain ⟨f1, f2, f3⟩ := R.fr b0 m0
  have hr0 := R.fr r (List.mem_of_getElem? R.root)
  have eB : e ≠ B := fun z => by rw [z, R.hB] at he; cases he
  have eD : e ≠ Dp := fun z => by rw [z, R.hD] at he; cases he
  have eb : e ≠ b0 := fun z => by rw [z, hy] at he; cases he
  have er : e ≠ r := fun z => by rw [z, R.hr] at he; cases he
  have free : ∀ q, q ≠ a → H q = none → H0 q = none := fun q hq h => by
    cases e : H0 q with
    | none => rfl
    | some o => rw [R.bt q o hq e] at h; cases h
  have k3 : ∀ q o, q ≠ B → q ≠ Dp → H q = some o → H3 q = some o := fun q o h1 h2 h => by
    rw [e3, upd_ne h2, upd_ne h1, upd_ne (fun z => by rw [z, he] at h; cases h)]
    exact h
  have t3 : ∀ q o, H3 q = some o → q ≠ t := fun q o h z => by rw [z, ht] at h; cases h
  have h3B : H3 B = some (.lst (bx.map V.ref ++ [.ref e])) := by rw [e3, upd_ne R.ne, upd_same]
  have h3D : H3 Dp = some (.lst (ds.map vI ++ [vI (x + 1)])) := by rw [e3, upd_same]
  have h3e : H3 e = some (.lst []) := by rw [e3, upd_ne eD, upd_ne eB, upd_same]
  have h3b := k3 _ _ f2 f3 hy
  have kk : ∀ q o, q ≠ b0 → H3 q = some o → H4 q = some o := fun q o h1 h => by
    rw [e4, upd_ne h1, upd_ne (t3 _ _ h)]
    exact h
  have k4 : ∀ q o, q ≠ B → q ≠ Dp → q ≠ b0 → H q = some o → H4 q = some o := fun q o h1 h2 h3 h => kk q o h3 (k3 q o h1 h2 h)
  have tb : t ≠ b0 := (t3 _ _ h3b).symm
  have te : t ≠ e := (t3 _ _ h3e).symm
  have tB : t ≠ B := (t3 _ _ h3B).symm
  have tD : t ≠ Dp := (t3 _ _ h3D).symm
  have h4t : H4 t = some (.tup [.str (S d), .ref e]) := by rw [e4, upd_ne tb, upd_same]
  have h4e := kk _ _ eb h3e
  have h4b : H4 b0 = some (.lst (ys ++ [.ref t])) := by rw [e4, upd_same]
  have Ht : H t = none := by
    cases e : H t with
    | none => rfl
    | some o => rw [k3 t o tB tD e] at ht; cases ht
  have e0 : H0 e = none := free e (fun z => Ha (by rw [← z]; exact he)) he
  have t0 : H0 t = none := free t (fun z => Ha (by rw [← z]; exact Ht)) Ht
  have tr : t ≠ r := fun z => by have := R.hr; rw [← z, Ht] at this; cases this
  have Ae : H0 e = none ∧ e ≠ r ∧ e ≠ B ∧ e ≠ Dp := ⟨e0, er, eB, eD⟩
  have At_ : H0 t = none ∧ t ≠ r ∧ t ≠ B ∧ t ≠ Dp := ⟨t0, tr, tB, tD⟩
  have ebx : e ∉ bx := fun h => by
    obtain ⟨j, hj⟩ := List.getElem?_of_mem h
    obtain ⟨b, zs, g1, g2, _⟩ := R.lst (lt_of_get hj)
    rw [hj] at g1
    cases g1
    rw [he] at g2
    cases g2
  have hm : (bx ++ [e])[bx.length]? = some e := getElem?_snoc
  have hdm : (ds ++ [x + 1])[bx.length]? = some (x + 1) := by rw [← R.len]; exact getElem?_snoc
  have hbl : ∀ (j : Nat) b, bx[j]? = some b → (bx ++ [e])[j]? = some b := fun j b h => getElem?_left h
  have hdl : ∀ (j y : Nat), ds[j]? = some y → (ds ++ [x + 1])[j]? = some y := fun j y h => getElem?_left h
  have lev' := G.lev_mono hdl R.lev
  have kA : ∀ q o, (H0 q = none ∧ q ≠ r ∧ q ≠ B ∧ q ≠ Dp) → q ≠ b0 → H q = some o → H4 q = some o := fun q o h h2 h3 => k4 q o h.2.2.1 h.2.2.2 h2 h3
  have key : ∃ g' xs', H4 r = some (.lst xs') ∧ GAt H4 (fun p => H0 p = none ∧ p ≠ r ∧ p ≠ B ∧ p ≠ Dp) (bx ++ [e]) g' xs' ∧ g'.ids.Perm (bx.length :: g.ids) ∧ g'.f.good ∧ g'.lev (ds ++ [x + 1]) 0 := by
    by_cases k0 : k = 0
    · subst k0
      have eb0 : b0 = r := by
        have := R.root
        rw [hk] at this
        exact Option.some.inj this
      subst eb0
      have exy : ys = xs := by
        have := R.hr
        rw [hy] at this
        cases this
        rfl
      subst exy
      have ex0 : x = 0 := by
        have := R.dz
        rw [hx] at this
        exact Option.some.inj this
      subst ex0
      have n0 : 0 ∉ g.ids := fun h => by
        have := ((R.idm 0).mp h).1
        omega
      exact ⟨g.snoc d bx.length, _, h4b, GAt.snoc At_ h4t hm Ae h4e (GAt.off R.nd hk hy (fun _ h _ => h) kA hbl n0 R.gat), G.ids_snoc g d _, G.good_snoc R.good od, G.lev_snoc lev' hdm⟩
    · have hki : k ∈ g.ids := (R.idm k).mpr ⟨by omega, lt_of_get hk⟩
      have rb : r ≠ b0 := fun z => k0 (nodup_get R.nd hk (by rw [← z]; exact R.root))
      exact ⟨g.ins k d bx.length, xs, k4 _ _ hr0.2.1 hr0.2.2 rb R.hr, GAt.ins R.nd hk hy (fun _ h _ => h) kA hbl At_ h4t hm Ae h4e h4b hki R.idn R.gat, G.ids_ins g hki, G.good_ins od R.good, G.lev_ins (hdl _ _ hx) hdm lev'⟩
  obtain ⟨g', xs', hr', gat', pm, good', levv⟩ := key
  have mi : ∀ y, y ∈ g'.ids ↔ y = bx.length ∨ y ∈ g.ids := fun y => (pm.mem_iff).trans List.mem_cons
  refine ⟨g', xs', ⟨fun q o hq h => ?_, R.a0, R.B0, R.D0, R.ne, ?_, ?_, ?_, ?_, ?_, hbl _ _ R.root, hr', gat', ?_, ?_, ?_, ?_, good', levv, hdl _ _ R.dz, ?_⟩⟩
  · exact k4 q o (fun z => by rw [z, R.B0] at h; cases h) (fun z => by rw [z, R.D0] at h; cases h) (fun z => by rw [z, f1] at h; cases h) (R.bt q o hq h)
  · rw [List.map_append]
    exact kk _ _ (Ne.symm f2) h3B
  · rw [List.map_append]
    exact kk _ _ (Ne.symm f3) h3D
  · rw [List.length_append, List.length_append, R.len]
    rfl
  · refine List.nodup_append.mpr ⟨R.nd, by simp, fun p hp q hq z => ?_⟩
    rw [List.mem_singleton.mp hq] at z
    exact ebx (by rw [← z]; exact hp)
  · intro b hb
    rcases List.mem_append.mp hb with hb | hb
    · exact R.fr b hb
    · rw [List.mem_singleton.mp hb]
      exact ⟨e0, eB, eD⟩
  · exact pm.nodup_iff.mpr (List.nodup_cons.mpr ⟨fun h => by have := ((R.idm _).mp h).2; omega, R.idn⟩)
  · intro y
    rw [mi, R.idm, List.length_append, List.length_singleton]
    have := lt_of_get R.root
    omega
  · rw [pm.length_eq, List.length_cons, List.length_append, List.length_singleton, R.idl]
  · rw [List.length_append, List.length_singleton]
    exact Nat.succ_le_succ R.lenle
  · intro y hy
    rcases List.mem_append.mp hy with hy | hy
    · exact R.dd y hy
    · rw [List.mem_singleton.mp hy]
      exact hxd
end K01
namespace K01
open PySem PySem.Spec PyProof.Rows L2 TL HotExc Tw
local macro_rules | `(tactic| walk_at "rd") => `(tactic| simp only [start1, wipe, isR, isBool, isInt, isStr, isLst, isTup, tAsg, gName, gSub, tVar, tC, tOp, tUn, tTest, tIfS, tRet, tRetN, tDrop, tB, tAnd, tOr, tNot, tAndV, tOrV, tNotV, tIf, tCB, tCons, tNil, tNext, tCall, tBM, tTup, tLst, rU, rInW, rNinW, Int.reduceNeg, tG, tG2, sP, tDisp, tPairs, tCallS, tCallSD, tCallT, StX.tStar, tCallK, tCallKS, rTupOf, tDrop, rI0, rI, rEq, rNe, scal, forR_eq, forR2_eq, forS_eq, forL_eq, lcT_eq, lcRT_eq, lcS_eq, rLenX, rLenS, rListOf, tRevL, rMulS, rRepL, rCatL, rSumN, rMaxN, tBM0, rPop, tAug, ipI,  tPart, tNoPart, CwR.tReplC, rAllK, rInSg, rNinSg, sgn_inj, rAddS, rInSt, tChain, tM1, tM0, rSplitN, rJoinN, exists_eq, rIntI, rIntB, rIntS, rStrI, rAbs, rOrd, rMin, rMax, rIxL, rIxX, rSetL, rAppend, rIxS, rSlS, rSlL, tSl, List.map_cons, List.map_nil, List.replicate_succ, List.replicate_zero, List.length_cons, List.length_nil, Nat.reduceSub, Nat.reduceAdd, Nat.zero_add, Nat.sub_self, List.getElem?_cons_zero, List.getElem?_cons_succ, List.set_cons_zero, List.set_cons_succ, List.append_nil, List.nil_append, List.cons_append, Option.some.injEq, not_true_eq_false, reduceCtorEq, exists_eq_left', exists_eq_left, exists_eq', exists_and_left, exists_and_right, V.int.injEq, V.str.injEq, V.bl.injEq, V.ref.injEq, List.cons.injEq, and_true, true_and, and_assoc, decide_eq_true_eq, Bool.not_eq_true', decide_eq_false_iff_not, ite_true, ite_false, if_true, if_false, Bool.not_true, Bool.not_false, Bool.false_eq_true, eq_self_iff_true, reduceIte, ne_eq, Int.reduceEq, not_false_eq_true])
local macro_rules | `(tactic| walk_at "rt") => `(tactic| try walk_at "rd")
local macro_rules | `(tactic| walk_at "st") => `(tactic| (walk_at "rt"; refine r_seq ?_; walk_at "rt"))
local macro_rules | `(tactic| walk_at "hp") => `(tactic| first | assumption | exact upd_same | (rw [upd_ne (by assumption)]; walk_at "hp"))
local macro_rules | `(tactic| walk_at "ex1") => `(tactic| ((with_reducible refine Exists.intro ?w (And.intro ?hx ?_)); (case hx => first | exact sq_of (by walk_at "hp") | exact .inl (sq_of (by walk_at "hp")) | exact rfl | (show _ = some (HO.lst _); walk_at "hp"))))
local macro_rules | `(tactic| walk_at "ex") => `(tactic| repeat (first | walk_at "ex1" | walk_at "rd"))
abbrev s_tree : Stmt := topS 28
theorem sc_tree : FnScope ["store", "many", "deep", "boxes", "depths", "kind", "k", "at", "deed", "box"] ["store", "many", "deep"] (defScope s_tree) := ⟨rfl, rfl, rfl, by decide +kernel, rfl, by decide +kernel, by decide +kernel⟩
def spTree : Sp := fun vs H Q _ => ∃ (a c : Addr) (many deep : Nat), vs = [.ref a, .int many, .int deep] ∧ StoreAt H a c ∧ many ≤ 2000 ∧ deep ≤ 13 ∧
  ∀ r H' f xs, StoreAt H' a c → But a H H' → H r = none → f.good → f.dep ≤ deep → f.cnt ≤ many → H' r = some (.lst xs) → AtL H' (fun p => H p = none ∧ p ≠ r) (Fd f) xs → Q (.ref r) H'
theorem StoreAt.some {H : Hp} {a c : Addr} (S : StoreAt H a c) : H a ≠ none := fun h => S.ne1 h rfl
theorem Ar.next {H0 H : Hp} {a B Dp : Addr} {deep : Nat} {bx : List Addr} {ds : List Nat} {g : G} {r : Addr} {xs : List V} {i : Nat} (R : Ar H0 H a B Dp deep bx ds g r xs i) : Ar H0 H a B Dp deep bx ds g r xs (i + 1) := { R with lenle := Nat.le_succ_of_le R.lenle }
theorem deed_of {l : List Nat} {v : V} (hn : nm l) (h : v ∈ [V.str (Str.ofString "-"), V.str (Str.ofString "a"), V.str (Str.ofString "b"), V.str (Str.ofString "a0"), V.str (S l)]) : ∃ d, v = .str (S d) ∧ okd d := by
  have na : low 97 := ⟨by decide, by decide⟩
  have nb : low 98 := ⟨by decide, by decide⟩
  simp only [List.mem_cons, List.not_mem_nil, or_false] at h
  rcases h with rfl | rfl | rfl | rfl | rfl
  · exact ⟨[45], by rw [S_da], .inl rfl⟩
  · exact ⟨[97], congrArg V.str (tl_inj (by decide +kernel)), .inr (nm_one.mpr na)⟩
  · exact ⟨[98], congrArg V.str (tl_inj (by decide +kernel)), .inr (nm_one.mpr nb)⟩
  · exact ⟨[97, 48], congrArg V.str (tl_inj (by decide +kernel)), .inr ⟨na, by decide, fun x hx => by rw [List.mem_singleton.mp hx]; exact .inr ⟨by decide, by decide⟩⟩⟩
  · exact ⟨l, rfl, .inr hn⟩
section
variable {P : Program} {w : World} {K : PySem.W.Frag} {mg : Str → Option Value} {base : Heap}
theorem ok_tree {f f_take f_pick f_name : Addr} {fd fd_take fd_pick fd_name : FuncData} (B : Bi mg) (D : Dn K mg "_law_tree" s_tree ["store", "many", "deep"] f fd) (D_take : Dn K mg "_law_take" s_take ["store", "many"] f_take fd_take)
    (D_pick : Dn K mg "_law_pick" s_pick ["store", "row"] f_pick fd_pick) (D_name : Dn K mg "_law_name" s_name ["store"] f_name fd_name)
    (G_take : FnOk P w K mg base CX0 2 f_take fd_take ["store", "many"] spTake) (G_pickL : FnOk P w K mg base CX0 3 f_pick fd_pick ["store", "row"] spPickL) (G_name : FnOk P w K mg base CX0 5 f_name fd_name ["store"] spNam) :
    FnOk P w K mg base CX0 6 f fd ["store", "many", "deep"] spTree := by
  refine D.F.ok sc_tree (fun vs H Q E h => ?_) (fun cdv A outer s H vs Q E hr h => ?_)
  · obtain ⟨a, c, many, deep, rfl, _⟩ := h
    rfl
  · obtain ⟨a, c, many, deep, rfl, S0, hm, hdp, q⟩ := h
    refine ⟨_, (pss_cons (ps_set (i := 3) sc_tree.nd rfl (.inl rfl) (pe_lst (pa_cons (pe_lst pa_nil) pa_nil)))
      (pss_cons (ps_set (i := 4) sc_tree.nd rfl (.inl rfl) (pe_lst (pa_cons pe_int pa_nil)))
      (pss_cons (ps_set (i := 5) sc_tree.nd rfl (.inl rfl) (pe_call G_take (hr.mono (by omega)) (by rfl) D_take.g D_take.F.kp D_take.b .nil pass0 (pa_cons (pv 0) (pa_cons pe_int pa_nil))))
      (pss_cons (ps_for PassesOwn.never rfl (pi_range1 (by rfl) B.range (pa_cons (pv 1) pa_nil)) (pg_name (i := 6) sc_tree.nd rfl (.inl rfl)) (pss_cons (ps_set (i := 7) sc_tree.nd rfl (.inl rfl) (pe_call G_take (hr.mono (by omega)) (by rfl) D_take.g D_take.F.kp D_take.b .nil pass0 (pa_cons (pv 0) (pa_cons (pe_callB (call_lenXK (K := K)) (by rfl) B.len PySem.boot_len (pa_cons (pv 3) pa_nil)) pa_nil))))
      (C8.pss_cut (ps_if (pt_cmpR op_eq (pv 5) pe_int (nomark _)) (pss_one (ps_set (i := 7) sc_tree.nd rfl (.inl rfl) (pe_op op_sub (pe_callB (call_lenXK (K := K)) (by rfl) B.len PySem.boot_len (pa_cons (pv 3) pa_nil)) pe_int))) pss_nil)
      (C8.pss_cut (ps_if (PW.pt (pw_or (PW.pt (pw_and (pt_cmpR op_eq (pv 5) pe_int (nomark _)) (pw_and1 (pt_cmpR op_gt (pe_call G_take (hr.mono (by omega)) (by rfl) D_take.g D_take.F.kp D_take.b .nil pass0 (pa_cons (pv 0) (pa_cons pe_int pa_nil))) pe_int (nomark _))))) (pw_or1 (pt_cmpR op_ge (pe_ix (ix_listK (K := K)) (pv 4) (pv 7) (fun _ _ => rfl)) (pv 2) (nomark _))))) (pss_one (ps_set (i := 7) sc_tree.nd rfl (.inl rfl) pe_int)) pss_nil)
      (pss_one (ps_if (pt_cmpR op_gt (pv 2) pe_int (nomark _)) (pss_cons (ps_set (i := 8) sc_tree.nd rfl (.inl rfl) (pe_call G_pickL (hr.mono (by omega)) (by rfl) D_pick.g D_pick.F.kp D_pick.b .nil pass0 (pa_cons (pv 0) (pa_cons (pe_lst (pa_cons pe_str (pa_cons pe_str (pa_cons pe_str (pa_cons pe_str (pa_cons (pe_call G_name (hr.mono (by omega)) (by rfl) D_name.g D_name.F.kp D_name.b .nil pass0 (pa_cons (pv 0) pa_nil)) pa_nil)))))) pa_nil))))
      (pss_cons (ps_set (i := 9) sc_tree.nd rfl (.inl rfl) (pe_ix (ix_listK (K := K)) (pv 3) (pv 7) (fun _ _ => rfl)))
      (pss_cons (ps_expr (pe_bm PySem.F.plainAttrs_list PySem.F.slot_list_append PySem.F.type_list_append mt_append (pv 3) (pa_cons (pe_lst pa_nil) pa_nil)))
      (pss_cons (ps_expr (pe_bm PySem.F.plainAttrs_list PySem.F.slot_list_append PySem.F.type_list_append mt_append (pv 4) (pa_cons (pe_op op_add (pe_ix (ix_listK (K := K)) (pv 4) (pv 7) (fun _ _ => rfl)) pe_int) pa_nil)))
      (pss_one (ps_expr (pe_bm PySem.F.plainAttrs_list PySem.F.slot_list_append PySem.F.type_list_append mt_append (pv 9) (pa_cons (pe_tup (pa_cons (pv 8) (pa_cons (pe_ix (ix_listK (K := K)) (pv 3) (pe_un un_neg pe_int) (fun _ _ => rfl)) pa_nil))) pa_nil)))))))) pss_nil))))))
      (pss_one (ps_ret (pe_ix (ix_listK (K := K)) (pv 3) pe_int (fun _ _ => rfl)))))))), ?_⟩
    walk_at "st"
    refine ⟨by rw [PySem.sizeLine_eq]; decide, fun r nr => ⟨by rw [PySem.sizeLine_eq]; decide, fun Bo nB => ?_⟩⟩
    walk_at "st"
    refine ⟨by rw [PySem.sizeLine_eq]; decide, fun Dp nD => ?_⟩
    have rB : r ≠ Bo := ne_of_none (upd_same (H := H) (a := r) (o := .lst [])) nB
    have nB0 : H Bo = none := (upd_ne (Ne.symm rB)).symm.trans nB
    have k1 : Keeps H (L2.upd (L2.upd H r (.lst [])) Bo (.lst [.ref r])) := (Keeps.new nr).put nB0
    have hr1 : L2.upd (L2.upd H r (.lst [])) Bo (.lst [.ref r]) r = some (.lst []) := (upd_ne rB).trans upd_same
    have hB1 : L2.upd (L2.upd H r (.lst [])) Bo (.lst [.ref r]) Bo = some (.lst [.ref r]) := upd_same
    have rD : r ≠ Dp := ne_of_none hr1 nD
    have BD : Bo ≠ Dp := ne_of_none hB1 nD
    have nD0 : H Dp = none := k1.free nD
    have kD : Keeps H (L2.upd (L2.upd (L2.upd H r (.lst [])) Bo (.lst [.ref r])) Dp (.lst [.int 0])) := k1.put nD0
    have R0 : Ar H (L2.upd (L2.upd (L2.upd H r (.lst [])) Bo (.lst [.ref r])) Dp (.lst [.int 0])) a Bo Dp deep [r] [0] .nil r [] 0 :=
      ⟨fun q o _ h => kD q o h, S0.some, nB0, nD0, BD, (upd_ne BD).trans hB1, upd_same, rfl, List.nodup_cons.mpr ⟨fun h => (by cases h), List.nodup_nil⟩, fun b hb => (by
        rw [List.mem_singleton.mp hb]
        exact ⟨nr, rB, rD⟩), rfl, (upd_ne rD).trans hr1, rfl, List.nodup_nil, fun x => ⟨fun h => (by cases h), fun h => (by simp at h; omega)⟩, rfl, Nat.le_refl _, trivial, trivial, rfl, fun x hx => (by rw [List.mem_singleton.mp hx]; exact Nat.zero_le _)⟩
    have S1 := Keeps.store S0 kD
    generalize L2.upd (L2.upd (L2.upd H r (.lst [])) Bo (.lst [.ref r])) Dp (.lst [.int 0]) = H1 at R0 S1 ⊢
    walk_at "st"
    refine ⟨a, c, _, rfl, S1, by decide, fun v H2 S2 b2 ⟨kind, e, _, _⟩ => ?_⟩
    subst e
    walk_at "st"
    refine ⟨by omega, by omega, ?_⟩
    refine r_range (fun i σ H' => ∃ (bx : List Addr) (ds : List Nat) (g : G) (xs : List V) (x6 x7 x8 x9 : Option V), σ = [some (.ref a), some (.int many), some (.int deep), some (.ref Bo), some (.ref Dp), some (.int kind), x6, x7, x8, x9] ∧ StoreAt H' a c ∧ Ar H H' a Bo Dp deep bx ds g r xs i)
      ⟨_, _, _, _, _, _, _, _, rfl, S2, R0.to b2⟩ ?_ ?_
    · rintro i σ H3 hi ⟨bx, ds, g, xs, x6, x7, x8, x9, rfl, S3, R⟩ N kk
      have hi : i < many := by omega
      have hl := R.lenle
      have hl1 := lt_of_get R.root
      walk_at "st"
      refine ⟨_, .inl (sq_of R.hB), a, c, _, rfl, S3, by rw [List.length_map]; omega, fun v H4 S4 b4 ⟨at0, e, t0, t1⟩ => ?_⟩
      subst e
      have R4 := R.to b4
      rw [List.length_map] at t1
      walk_at "rt"
      refine r_cut (fun σ H' => H' = H4 ∧ ∃ k : Nat, k < bx.length ∧ ∃ x6, σ = [some (.ref a), some (.int many), some (.int deep), some (.ref Bo), some (.ref Dp), some (.int kind), x6, some (.int k), x8, x9]) (fun N2 k2 => ?_) ?_
      · walk_at "rt"
        refine ite2 (fun _ => ⟨_, .inl (sq_of R4.hB), ?_⟩) (fun _ => ?_)
        · rw [List.length_map, show ((bx.length : Int) - 1) = ((bx.length - 1 : Nat) : Int) by omega]
          exact k2 _ _ ⟨rfl, _, by omega, _, rfl⟩
        · rw [show at0 = ((at0.toNat : Nat) : Int) by omega]
          exact k2 _ _ ⟨rfl, _, by omega, _, rfl⟩
      rintro σ H' ⟨rfl, k, hk, x6, rfl⟩
      walk_at "rt"
      refine r_cut (fun σ H' => StoreAt H' a c ∧ Ar H H' a Bo Dp deep bx ds g r xs i ∧ ∃ k x : Nat, k < bx.length ∧ ds[k]? = some x ∧ (x < deep ∨ x = 0) ∧ ∃ x6, σ = [some (.ref a), some (.int many), some (.int deep), some (.ref Bo), some (.ref Dp), some (.int kind), x6, some (.int k), x8, x9]) (fun N2 k2 => ?_) ?_
      · have zero : ∀ H5, StoreAt H5 a c → But a H' H5 → ∀ x6, N2 [some (.ref a), some (.int many), some (.int deep), some (.ref Bo), some (.ref Dp), some (.int kind), x6, some (.int 0), x8, x9] H5 := fun H5 S5 b5 x6 => k2 _ _ ⟨S5, R4.to b5, 0, 0, by omega, R4.dz, .inr rfl, _, rfl⟩
        have test : ∀ H5, StoreAt H5 a c → But a H' H5 → ∃ x, SqL K H5 Dp x ∧ ∃ x_1, atI x (k : Int) = some x_1 ∧ ∃ i, x_1 = V.int i ∧ if (deep : Int) ≤ i then N2 [some (.ref a), some (.int many), some (.int deep), some (.ref Bo), some (.ref Dp), some (.int kind), x6, some (.int 0), x8, x9] H5 else N2 [some (.ref a), some (.int many), some (.int deep), some (.ref Bo), some (.ref Dp), some (.int kind), x6, some (.int k), x8, x9] H5 := fun H5 S5 b5 => by
          have R5 := R4.to b5
          obtain ⟨x, hx⟩ : ∃ x, ds[k]? = some x := ⟨_, List.getElem?_eq_getElem (by rw [R.len]; exact hk)⟩
          refine ⟨_, sq_of R5.hD, vI x, atI_nat (by rw [List.getElem?_map, hx]; rfl), _, rfl, ite2 (fun _ => zero H5 S5 b5 _) (fun g => k2 _ _ ⟨S5, R5, k, x, hk, hx, .inl (by omega), _, rfl⟩)⟩
        walk_at "rt"
        refine ite2 (fun _ => ⟨a, c, _, rfl, S4, by decide, fun v H5 S5 b5 ⟨y, e, _, _⟩ => ⟨y, e, ite2 (fun _ => zero H5 S5 b5 _) (fun _ => test H5 S5 b5)⟩⟩) (fun _ => test H' S4 (fun _ _ _ h => h))
      rintro σ H5 ⟨S5, R5, k, x, hk, hx, hxd, x6, rfl⟩
      walk_at "rt"
      refine ite2 (fun hdeep => ?_) (fun _ => kk _ _ ⟨_, _, _, _, _, _, _, _, rfl, S5, R5.next⟩)
      have hxd' : x + 1 ≤ deep := by omega
      walk_at "st"
      refine ⟨a, c, rfl, S5, fun v H6 S6 b6 ⟨l, e, hn⟩ => ?_⟩
      subst e
      refine ⟨by rw [PySem.sizeLine_eq]; decide, fun p np => ?_⟩
      refine ⟨a, c, p, _, rfl, S6.new np, upd_same, S6.ne1 np, List.cons_ne_nil _ _, Nat.le_of_ble_eq_true rfl, fun v H7 S7 b7 hv => ?_⟩
      obtain ⟨d, rfl, od⟩ := deed_of hn hv
      have R7 := (R5.to b6).to (But.pushNew np b7)
      clear b7 b6 np
      walk_at "st"
      obtain ⟨b0, ys, hk0, hy, hyl⟩ := R7.lst hk
      refine ⟨_, sq_of R7.hB, _, atI_nat (by rw [List.getElem?_map, hk0]; rfl), ?_⟩
      walk_at "st"
      have bl : bx.length ≤ 2001 := by have := R7.lenle; omega
      obtain ⟨nb00, nb0B, nb0D⟩ := R7.fr b0 (List.mem_of_getElem? hk0)
      refine ⟨.inl ⟨rfl, _, sq_of R7.hB⟩, Nat.zero_le _, fun e ne => ?_⟩
      have eB := ne_of_none R7.hB ne
      have eD := ne_of_none R7.hD ne
      have eb := ne_of_none hy ne
      refine ⟨_, (upd_ne eB).trans R7.hB, size_ok (by rw [List.length_map]; omega), ?_⟩
      have hD2 : L2.upd (L2.upd H7 e (.lst [])) Bo (.lst (bx.map V.ref ++ [.ref e])) Dp = some (.lst (ds.map vI)) := (upd_ne R7.ne.symm).trans ((upd_ne eD).trans R7.hD)
      walk_at "st"
      refine ⟨.inl ⟨rfl, _, sq_of hD2⟩, _, sq_of hD2, vI x, atI_nat (by rw [List.getElem?_map, hx]; rfl), _, rfl, _, hD2, size_ok (by rw [List.length_map, R7.len]; omega), ?_⟩
      have ev : V.int ((x : Int) + 1) = vI (x + 1) := rfl
      rw [ev]
      have hB3 : L2.upd (L2.upd (L2.upd H7 e (.lst [])) Bo (.lst (bx.map V.ref ++ [.ref e]))) Dp (.lst (ds.map vI ++ [vI (x + 1)])) Bo = some (.lst (bx.map V.ref ++ [.ref e])) := (upd_ne R7.ne).trans upd_same
      have hb3 : L2.upd (L2.upd (L2.upd H7 e (.lst [])) Bo (.lst (bx.map V.ref ++ [.ref e]))) Dp (.lst (ds.map vI ++ [vI (x + 1)])) b0 = some (.lst ys) := (upd_ne nb0D).trans ((upd_ne nb0B).trans ((upd_ne eb).trans hy))
      have fin := fun t ht => R7.grow (t := t) od hk0 hy hx hxd' S7.some ne rfl ht rfl
      have S8 : StoreAt (L2.upd (L2.upd (L2.upd H7 e (.lst [])) Bo (.lst (bx.map V.ref ++ [.ref e]))) Dp (.lst (ds.map vI ++ [vI (x + 1)]))) a c := by
        exact ((S7.new ne).put (S0.ne1 nB0) (S0.ne2 nB0)).put (S0.ne1 nD0) (S0.ne2 nD0)
      generalize L2.upd (L2.upd (L2.upd H7 e (.lst [])) Bo (.lst (bx.map V.ref ++ [.ref e]))) Dp (.lst (ds.map vI ++ [vI (x + 1)])) = H8 at *
      walk_at "rt"
      refine ⟨.inl ⟨rfl, _, sq_of hb3⟩, _, sq_of hB3, V.ref e, atI_last _ _, by rw [PySem.sizeLine_eq]; decide, fun t nt => ?_⟩
      obtain ⟨g', xs', R9⟩ := fin t nt
      refine ⟨_, (upd_ne (ne_of_none hb3 nt)).trans hb3, size_ok (by omega), ?_⟩
      exact kk _ _ ⟨_, _, g', xs', _, _, _, _, rfl, (S8.new nt).put (S0.ne1 nb00) (S0.ne2 nb00), R9⟩
    · rintro σ H' ⟨bx, ds, g, xs, x6, x7, x8, x9, rfl, S3, R⟩
      walk_at "rt"
      refine ⟨_, sq_of R.hB, V.ref r, by show atI (bx.map V.ref) ((0 : Nat) : Int) = _; exact atI_nat (by rw [List.getElem?_map, R.root]; rfl), ?_⟩
      have hc := R.idl
      have hl := R.lenle
      have hci := G.cnt_ids g
      refine q r H' g.f xs S3 R.bt nr R.good ?_ (by omega) R.hr (AtL.mono (fun p h => ⟨h.1, h.2.1⟩) (fun _ _ _ h => h) _ _ (GAt.data (by omega) R.gat))
      have := G.lev_dep R.dd R.lev
      omega
end
end K01
namespace K01
open PySem PySem.Spec PyProof.Rows L2 TL HotExc Tw
local macro_rules | `(tactic| walk_at "rd") => `(tactic| simp only [start1, wipe, isR, isBool, isInt, isStr, isLst, isTup, tAsg, gName, gSub, tVar, tC, tOp, tUn, tTest, tIfS, tRet, tRetN, tDrop, tB, tAnd, tOr, tNot, tAndV, tOrV, tNotV, tIf, tCB, tCons, tNil, tNext, tCall, tBM, tTup, tLst, rU, rInW, rNinW, Int.reduceNeg, tG, tG2, sP, tDisp, tPairs, tCallS, tCallSD, tCallT, StX.tStar, tCallK, tCallKS, rTupOf, tDrop, rI0, rI, rEq, rNe, scal, forR_eq, forR2_eq, forS_eq, forL_eq, lcT_eq, lcRT_eq, lcS_eq, rLenX, rLenS, rListOf, tRevL, rMulS, rRepL, rCatL, rSumN, rMaxN, tBM0, rPop, tAug, ipI,  tPart, tNoPart, CwR.tReplC, rAllK, rInSg, rNinSg, sgn_inj, rAddS, rInSt, tChain, tM1, tM0, rSplitN, rJoinN, exists_eq, rIntI, rIntB, rIntS, rStrI, rAbs, rOrd, rMin, rMax, rIxL, rIxX, rSetL, rAppend, rIxS, rSlS, rSlL, tSl, List.map_cons, List.map_nil, List.replicate_succ, List.replicate_zero, List.length_cons, List.length_nil, Nat.reduceSub, Nat.reduceAdd, Nat.zero_add, Nat.sub_self, List.getElem?_cons_zero, List.getElem?_cons_succ, List.set_cons_zero, List.set_cons_succ, List.append_nil, List.nil_append, List.cons_append, Option.some.injEq, not_true_eq_false, reduceCtorEq, exists_eq_left', exists_eq_left, exists_eq', exists_and_left, exists_and_right, V.int.injEq, V.str.injEq, V.bl.injEq, V.ref.injEq, List.cons.injEq, and_true, true_and, and_assoc, decide_eq_true_eq, Bool.not_eq_true', decide_eq_false_iff_not, ite_true, ite_false, if_true, if_false, Bool.not_true, Bool.not_false, Bool.false_eq_true, eq_self_iff_true, reduceIte, ne_eq, Int.reduceEq, not_false_eq_true])
local macro_rules | `(tactic| walk_at "rt") => `(tactic| try walk_at "rd")
local macro_rules | `(tactic| walk_at "st") => `(tactic| (walk_at "rt"; refine r_seq ?_; walk_at "rt"))
local macro_rules | `(tactic| walk_at "hp") => `(tactic| first | assumption | exact upd_same | (rw [upd_ne (by assumption)]; walk_at "hp"))
local macro_rules | `(tactic| walk_at "ex1") => `(tactic| ((with_reducible refine Exists.intro ?w (And.intro ?hx ?_)); (case hx => first | exact sq_of (by walk_at "hp") | exact .inl (sq_of (by walk_at "hp")) | exact rfl | (show _ = some (HO.lst _); walk_at "hp"))))
local macro_rules | `(tactic| walk_at "ex") => `(tactic| repeat (first | walk_at "ex1" | walk_at "rd"))
abbrev s_sizedtree : Stmt := topS 40
theorem sc_sizedtree : FnScope ["store", "many"] ["store"] (defScope s_sizedtree) := ⟨rfl, rfl, rfl, by decide +kernel, rfl, by decide +kernel, by decide +kernel⟩
abbrev s_oddtree : Stmt := topS 39
theorem sc_oddtree : FnScope ["store", "tree", "odd", "at"] ["store", "tree"] (defScope s_oddtree) := ⟨rfl, rfl, rfl, by decide +kernel, rfl, by decide +kernel, by decide +kernel⟩
def natB (m : Nat) (v : V) : Bool := match v with | .int i => decide (0 ≤ i ∧ i ≤ m) | _ => false
theorem nat_all {m : Nat} {vs : List V} (h : vs.all (natB m) = true) {v : V} (hv : v ∈ vs) : ∃ n : Nat, v = .int n ∧ n ≤ m := by
  have := List.all_eq_true.mp h v hv
  cases v with
  | int i =>
    have := of_decide_eq_true this
    exact ⟨i.toNat, by rw [Int.toNat_of_nonneg this.1], by omega⟩
  | _ => cases this
def spSized : Sp := fun vs H Q _ => ∃ (a c : Addr), vs = [.ref a] ∧ StoreAt H a c ∧
  ∀ r H' f xs, StoreAt H' a c → But a H H' → H r = none → f.good → f.dep ≤ 13 → f.cnt ≤ 2000 → H' r = some (.lst xs) → AtL H' (fun p => H p = none ∧ p ≠ r) (Fd f) xs → Q (.ref r) H'
theorem AtL.split {H : Hp} {A : Addr → Prop} : ∀ (i : Nat) (l : List Dat) (xs : List V), AtL H A l xs → AtL H A (l.take i) (xs.take i) ∧ AtL H A (l.drop i) (xs.drop i)
  | 0, l, xs, h => ⟨rfl, h⟩
  | i + 1, [], xs, h => by rw [show xs = [] from h]; exact ⟨rfl, rfl⟩
  | i + 1, d :: l, _, ⟨v, r, e, h1, h2⟩ => by
    subst e
    have := AtL.split i l r h2
    exact ⟨⟨v, _, rfl, h1, this.1⟩, this.2⟩
theorem AtL.app {H : Hp} {A : Addr → Prop} : ∀ (l m : List Dat) (xs ys : List V), AtL H A l xs → AtL H A m ys → AtL H A (l ++ m) (xs ++ ys)
  | [], m, xs, ys, h, h2 => by rw [show xs = [] from h]; exact h2
  | d :: l, m, _, ys, ⟨v, r, e, h1, h2⟩, h3 => by subst e; exact ⟨v, r ++ ys, rfl, h1, AtL.app l m r ys h2 h3⟩
theorem Fd_of (l : List (List Nat × F)) : Fd (F.of l) = l.map tw := by rw [Fd_ps, ps_of]
def wt (p : List Nat × F) : Nat := p.1.length + p.2.tx.length + 2
theorem txl (f : F) : f.tx.length = (f.ps.map wt).sum := by
  have : ∀ l : List (List Nat × F), (l.map fun p => p.1 ++ 40 :: (p.2.tx ++ [41])).flatten.length = (l.map wt).sum := by
    intro l
    induction l with
    | nil => rfl
    | cons q l ih =>
      rw [List.map_cons, List.flatten_cons, List.length_append, ih, List.map_cons, List.sum_cons]
      simp only [wt, List.length_append, List.length_cons, List.length_nil]
      omega
  rw [← this, ← tx_ps]
/-- one pair of a tree put in another's place -/
theorem put_at {f : F} {i : Nat} {p q : List Nat × F} (hp : f.ps[i]? = some p) {f' : F} (e : f' = F.of (f.ps.take i ++ q :: f.ps.drop (i + 1))) : f'.tx.length + wt p = f.tx.length + wt q ∧ ∀ n, f.dep ≤ n → 1 + q.2.dep ≤ n → f'.dep ≤ n := by
  have hs : f.ps = f.ps.take i ++ p :: f.ps.drop (i + 1) := by
    have hi := lt_of_get hp
    have e2 : f.ps.drop i = p :: f.ps.drop (i + 1) := by
      rw [List.drop_eq_getElem_cons hi]
      rw [List.getElem?_eq_getElem hi] at hp
      cases hp
      rfl
    rw [← e2, List.take_append_drop]
  refine ⟨?_, fun n h1 h2 => ?_⟩
  · rw [txl f', txl f, e, ps_of]
    generalize hA : f.ps.take i = X at *
    generalize hB : f.ps.drop (i + 1) = Y at *
    rw [hs]
    simp only [List.map_append, List.map_cons, List.sum_append, List.sum_cons]
    omega
  · rw [e]
    refine dep_of fun x hx => ?_
    rw [ps_of] at hx
    rcases List.mem_append.mp hx with hx | hx
    · have := dep_mem (List.mem_of_mem_take hx)
      omega
    · rcases List.mem_cons.mp hx with rfl | hx
      · exact h2
      · have := dep_mem (List.mem_of_mem_drop hx)
        omega
def spOd : Nat → Sp
  | 0 => fun _ _ _ _ => False
  | n + 1 => fun vs H Q _ => ∃ (a c : Addr) (v : V) (f : F), vs = [.ref a, v] ∧ StoreAt H a c ∧ TrA H (fun p => p ≠ a) f v ∧ f.dep ≤ n ∧ f.tx.length ≤ 1000 ∧
    ∀ v' H' f', StoreAt H' a c → But a H H' → TrA H' (fun p => p ≠ a) f' v' → f'.dep ≤ f.dep + 1 → f'.tx.length ≤ f.tx.length + 12 → Q v' H'
theorem TrA.store {H H' : Hp} {a : Addr} {f : F} {v : V} (h : TrA H (fun p => p ≠ a) f v) (k : But a H H') : TrA H' (fun p => p ≠ a) f v := Tr.but (y := .lst []) h (fun _ h => h) k
theorem odd_snoc {H2 : Hp} {a c l : Addr} {f : F} {xs : List V} {od : Str} {Q : VK} (S2 : StoreAt H2 a c) (hx : H2 l = some (.lst xs)) (hm : xs.length ≤ 1000) (hL : AtL H2 (fun p => p ≠ a) (Fd f) xs)
    (q : ∀ v' H', StoreAt H' a c → But a H2 H' → TrA H' (fun p => p ≠ a) (f.snoc (tl od) .nil) v' → Q v' H') :
    0 ≤ sizeLine ∧ ∀ (p : Addr), H2 p = none → 2 ≤ sizeLine ∧ ∀ (p_1 : Addr), L2.upd H2 p (.lst []) p_1 = none → 1 ≤ sizeLine ∧ ∀ (p_2 : Addr), L2.upd (L2.upd H2 p (.lst [])) p_1 (.tup [.str od, .ref p]) p_2 = none →
      ∃ xs, L2.upd (L2.upd (L2.upd H2 p (.lst [])) p_1 (.tup [.str od, .ref p])) p_2 (.lst [.ref p_1]) l = some (.lst xs) ∧ ∃ zs, L2.upd (L2.upd (L2.upd H2 p (.lst [])) p_1 (.tup [.str od, .ref p])) p_2 (.lst [.ref p_1]) p_2 = some (.lst zs) ∧ xs.length + zs.length ≤ sizeLine ∧
        ∀ (p_3 : Addr), L2.upd (L2.upd (L2.upd H2 p (.lst [])) p_1 (.tup [.str od, .ref p])) p_2 (.lst [.ref p_1]) p_3 = none → Q (.ref p_3) (L2.upd (L2.upd (L2.upd (L2.upd H2 p (.lst [])) p_1 (.tup [.str od, .ref p])) p_2 (.lst [.ref p_1])) p_3 (.lst (xs ++ zs))) := by
  refine ⟨Nat.zero_le _, fun e ne => ⟨by rw [PySem.sizeLine_eq]; decide, fun t nt => ⟨by rw [PySem.sizeLine_eq]; decide, fun m nm => ?_⟩⟩⟩
  have k1 : Keeps H2 (L2.upd H2 e (.lst [])) := Keeps.new ne
  have h1 : L2.upd H2 e (.lst []) e = some (.lst []) := upd_same
  generalize L2.upd H2 e (.lst []) = Ha at *
  have k2 : Keeps Ha (L2.upd Ha t (.tup [.str od, .ref e])) := Keeps.new nt
  have h2 : L2.upd Ha t (.tup [.str od, .ref e]) t = some (.tup [.str od, .ref e]) := upd_same
  generalize L2.upd Ha t (.tup [.str od, .ref e]) = Hb at *
  have k3 : Keeps Hb (L2.upd Hb m (.lst [.ref t])) := Keeps.new nm
  have h3 : L2.upd Hb m (.lst [.ref t]) m = some (.lst [.ref t]) := upd_same
  generalize L2.upd Hb m (.lst [.ref t]) = Hc at *
  have k03 := (k1.trans k2).trans k3
  refine ⟨xs, k03 _ _ hx, _, h3, line_of (by rw [List.length_singleton]; omega), fun z nz => ?_⟩
  have k4 : Keeps Hc (L2.upd Hc z (.lst (xs ++ [.ref t]))) := Keeps.new nz
  have k04 := k03.trans k4
  have na : ∀ q, H2 q = none → q ≠ a := fun q h => S2.ne1 h
  refine q _ _ (Keeps.store S2 k04) (Keeps.but k04) ⟨z, _, rfl, na _ (k03.free nz), upd_same, by rw [List.length_append, List.length_singleton]; omega, ?_⟩
  rw [Fd_snoc]
  refine AtL.snoc _ _ _ _ (AtL.keep hL k04) (pr_to ⟨t, .ref e, rfl, na _ (k1.free nt), ?_, e, [], rfl, na _ ne, k4 _ _ (k3 _ _ (k2 _ _ h1)), by decide, rfl⟩)
  rw [S_tl]
  exact k4 _ _ (k3 _ _ h2)
section
variable {P : Program} {w : World} {K : PySem.W.Frag} {mg : Str → Option Value} {base : Heap}
theorem ok_sizedtree {f f_chance f_pick f_tree : Addr} {fd fd_chance fd_pick fd_tree : FuncData} (B : Bi mg) (D : Dn K mg "_law_sized_tree" s_sizedtree ["store"] f fd) (D_chance : Dn K mg "_law_chance" s_chance ["store", "many"] f_chance fd_chance)
    (D_pick : Dn K mg "_law_pick" s_pick ["store", "row"] f_pick fd_pick) (D_tree : Dn K mg "_law_tree" s_tree ["store", "many", "deep"] f_tree fd_tree)
    (G_chance : FnOk P w K mg base CX0 3 f_chance fd_chance ["store", "many"] spChance) (G_pickL : FnOk P w K mg base CX0 3 f_pick fd_pick ["store", "row"] spPickL) (G_tree : FnOk P w K mg base CX0 6 f_tree fd_tree ["store", "many", "deep"] spTree) :
    FnOk P w K mg base CX0 7 f fd ["store"] spSized := by
  refine D.F.ok sc_sizedtree (fun vs H Q E h => ?_) (fun cdv A outer s H vs Q E hr h => ?_)
  · obtain ⟨a, c, rfl, _⟩ := h
    rfl
  · obtain ⟨a, c, rfl, S0, q⟩ := h
    refine ⟨_, (pss_cons (ps_set (i := 1) sc_sizedtree.nd rfl (.inl rfl) (pe_call G_pickL (hr.mono (by omega)) (by rfl) D_pick.g D_pick.F.kp D_pick.b .nil pass0 (pa_cons (pv 0) (pa_cons (pe_lst (pa_cons pe_int (pa_cons pe_int (pa_cons pe_int (pa_cons pe_int (pa_cons pe_int (pa_cons pe_int (pa_cons pe_int (pa_cons pe_int (pa_cons pe_int pa_nil)))))))))) pa_nil))))
      (C8.pss_cut (ps_if (pt_val (pe_call G_chance (hr.mono (by omega)) (by rfl) D_chance.g D_chance.F.kp D_chance.b .nil pass0 (pa_cons (pv 0) (pa_cons pe_int pa_nil)))) (pss_one (ps_set (i := 1) sc_sizedtree.nd rfl (.inl rfl) (pe_call G_pickL (hr.mono (by omega)) (by rfl) D_pick.g D_pick.F.kp D_pick.b .nil pass0 (pa_cons (pv 0) (pa_cons (pe_lst (pa_cons pe_int (pa_cons pe_int (pa_cons pe_int pa_nil)))) pa_nil))))) pss_nil)
      (pss_one (ps_ret (pe_call G_tree (hr.mono (by omega)) (by rfl) D_tree.g D_tree.F.kp D_tree.b .nil pass0 (pa_cons (pv 0) (pa_cons (pv 1) (pa_cons (pe_call G_pickL (hr.mono (by omega)) (by rfl) D_pick.g D_pick.F.kp D_pick.b .nil pass0 (pa_cons (pv 0) (pa_cons (pe_lst (pa_cons pe_int (pa_cons pe_int (pa_cons pe_int (pa_cons pe_int (pa_cons pe_int (pa_cons pe_int (pa_cons pe_int (pa_cons pe_int (pa_cons pe_int pa_nil)))))))))) pa_nil))) pa_nil)))))))), ?_⟩
    walk_at "st"
    refine ⟨by rw [PySem.sizeLine_eq]; decide, fun p np => ⟨a, c, p, _, rfl, S0.new np, upd_same, S0.ne1 np, List.cons_ne_nil _ _, Nat.le_of_ble_eq_true rfl, fun v H1 S1 b1 hv => ?_⟩⟩
    obtain ⟨n1, rfl, hn1⟩ := nat_all (m := 2000) (by decide +kernel) hv
    have b1' := But.pushNew np b1
    clear b1
    walk_at "rt"
    refine r_cut (fun σ H' => StoreAt H' a c ∧ But a H H' ∧ ∃ n : Nat, n ≤ 2000 ∧ σ = [some (.ref a), some (.int n)]) (fun N kk => ?_) ?_
    · walk_at "rt"
      refine ⟨a, c, _, rfl, S1, by decide, fun v H2 S2 b2 ⟨bb, e⟩ => ⟨bb, e, ?_⟩⟩
      cases bb with
      | false => exact kk _ _ ⟨S2, b1'.trans b2, n1, hn1, rfl⟩
      | true =>
        walk_at "rt"
        refine ⟨by rw [PySem.sizeLine_eq]; decide, fun p np => ⟨a, c, p, _, rfl, S2.new np, upd_same, S2.ne1 np, List.cons_ne_nil _ _, Nat.le_of_ble_eq_true rfl, fun v H3 S3 b3 hv => ?_⟩⟩
        obtain ⟨n2, rfl, hn2⟩ := nat_all (m := 2000) (by decide +kernel) hv
        exact kk _ _ ⟨S3, (b1'.trans b2).trans (But.pushNew np b3), n2, hn2, rfl⟩
    rintro σ H2 ⟨S2, b2, n, hn, rfl⟩
    walk_at "rt"
    refine ⟨by rw [PySem.sizeLine_eq]; decide, fun p np => ⟨a, c, p, _, rfl, S2.new np, upd_same, S2.ne1 np, List.cons_ne_nil _ _, Nat.le_of_ble_eq_true rfl, fun v H3 S3 b3 hv => ?_⟩⟩
    obtain ⟨n3, rfl, hn3⟩ := nat_all (m := 13) (by decide +kernel) hv
    have b3' := b2.trans (But.pushNew np b3)
    have free : ∀ q, q ≠ a → H3 q = none → H q = none := fun q hq h => by
      cases e : H q with
      | none => rfl
      | some o => rw [b3' q o hq e] at h; cases h
    refine ⟨a, c, n, n3, rfl, S3, hn, hn3, fun r H4 f xs S4 b4 nr g1 g2 g3 g4 g5 => ?_⟩
    refine q r H4 f xs S4 (b3'.trans b4) (free r (S3.ne1 nr) nr) g1 (by omega) (by omega) g4 (AtL.mono (fun p h => ⟨free p (S3.ne1 h.1) h.1, h.2⟩) (fun _ _ _ h => h) _ _ g5)
theorem ok_oddtree {f f_take f_chance f_pick : Addr} {fd fd_take fd_chance fd_pick : FuncData} (B : Bi mg) (D : Dn K mg "_law_odd_tree" s_oddtree ["store", "tree"] f fd) (D_oddtree : Dn K mg "_law_odd_tree" s_oddtree ["store", "tree"] f fd) (D_take : Dn K mg "_law_take" s_take ["store", "many"] f_take fd_take)
    (D_chance : Dn K mg "_law_chance" s_chance ["store", "many"] f_chance fd_chance) (D_pick : Dn K mg "_law_pick" s_pick ["store", "row"] f_pick fd_pick) (n : Nat)
    (G_take : FnOk P w K mg base CX0 2 f_take fd_take ["store", "many"] spTake) (G_chance : FnOk P w K mg base CX0 3 f_chance fd_chance ["store", "many"] spChance) (G_pickL : FnOk P w K mg base CX0 3 f_pick fd_pick ["store", "row"] spPickL) (G_oddtree : FnOk P w K mg base CX0 (n + 4) f fd ["store", "tree"] (spOd n)) :
    FnOk P w K mg base CX0 (n + 5) f fd ["store", "tree"] (spOd (n + 1)) := by
  refine D.F.ok sc_oddtree (fun vs H Q E h => ?_) (fun cdv A outer s H vs Q E hr h => ?_)
  · obtain ⟨a, c, v, f, rfl, _⟩ := h
    rfl
  · obtain ⟨a, c, v, f, rfl, S0, ht, hd, hl, q⟩ := h
    refine ⟨_, (pss_cons (ps_set (i := 2) sc_oddtree.nd rfl (.inl rfl) (pe_call G_pickL (hr.mono (by omega)) (by rfl) D_pick.g D_pick.F.kp D_pick.b .nil pass0 (pa_cons (pv 0) (pa_cons (pe_lst (pa_cons pe_str (pa_cons pe_str (pa_cons pe_str (pa_cons pe_str (pa_cons pe_str (pa_cons pe_str (pa_cons pe_str (pa_cons pe_str (pa_cons pe_str (pa_cons pe_str pa_nil))))))))))) pa_nil))))
      (pss_cons (ps_if (PW.pt (pw_or (pt_cmpR op_eq (pe_callB (call_lenXK (K := K)) (by rfl) B.len PySem.boot_len (pa_cons (pv 1) pa_nil)) pe_int (nomark _)) (pw_or1 (pt_val (pe_call G_chance (hr.mono (by omega)) (by rfl) D_chance.g D_chance.F.kp D_chance.b .nil pass0 (pa_cons (pv 0) (pa_cons pe_int pa_nil))))))) (pss_one (ps_ret (pe_op op_catL (pv 1) (pe_lst (pa_cons (pe_tup (pa_cons (pv 2) (pa_cons (pe_lst pa_nil) pa_nil))) pa_nil))))) pss_nil)
      (pss_cons (ps_set (i := 3) sc_oddtree.nd rfl (.inl rfl) (pe_call G_take (hr.mono (by omega)) (by rfl) D_take.g D_take.F.kp D_take.b .nil pass0 (pa_cons (pv 0) (pa_cons (pe_callB (call_lenXK (K := K)) (by rfl) B.len PySem.boot_len (pa_cons (pv 1) pa_nil)) pa_nil))))
      (pss_cons (ps_if (pt_val (pe_call G_chance (hr.mono (by omega)) (by rfl) D_chance.g D_chance.F.kp D_chance.b .nil pass0 (pa_cons (pv 0) (pa_cons pe_int pa_nil)))) (pss_one (ps_ret (pe_op op_catL (pe_op op_catL (pe_slice (sl_listK (K := K)) (pv 1) po_none (po_some (pv 3))) (pe_lst (pa_cons (pe_tup (pa_cons (pv 2) (pa_cons (pe_ix (ix_sxK (K := K)) (pe_ix (ix_listK (K := K)) (pv 1) (pv 3) (fun _ _ => rfl)) pe_int (fun _ _ => rfl)) pa_nil))) pa_nil))) (pe_slice (sl_listK (K := K)) (pv 1) (po_some (pe_op op_add (pv 3) pe_int)) po_none)))) pss_nil)
      (pss_one (ps_ret (pe_op op_catL (pe_op op_catL (pe_slice (sl_listK (K := K)) (pv 1) po_none (po_some (pv 3))) (pe_lst (pa_cons (pe_tup (pa_cons (pe_ix (ix_sxK (K := K)) (pe_ix (ix_listK (K := K)) (pv 1) (pv 3) (fun _ _ => rfl)) pe_int (fun _ _ => rfl)) (pa_cons (pe_call G_oddtree (hr.mono (by omega)) (by rfl) D_oddtree.g D_oddtree.F.kp D_oddtree.b .nil pass0 (pa_cons (pv 0) (pa_cons (pe_ix (ix_sxK (K := K)) (pe_ix (ix_listK (K := K)) (pv 1) (pv 3) (fun _ _ => rfl)) pe_int (fun _ _ => rfl)) pa_nil))) pa_nil))) pa_nil))) (pe_slice (sl_listK (K := K)) (pv 1) (po_some (pe_op op_add (pv 3) pe_int)) po_none)))))))), ?_⟩
    walk_at "st"
    refine ⟨by rw [PySem.sizeLine_eq]; decide, fun p np => ⟨a, c, p, _, rfl, S0.new np, upd_same, S0.ne1 np, List.cons_ne_nil _ _, Nat.le_of_ble_eq_true rfl, fun v1 H1 S1 b1 hv => ?_⟩⟩
    obtain ⟨od, rfl, hod⟩ := short_all (by decide +kernel) hv
    have b1' := But.pushNew np b1
    clear b1
    have ht1 := ht.store b1'
    obtain ⟨l, xs, rfl, hla, hx, hm, hn, hg⟩ := ht1.get
    have La := ht1
    obtain ⟨l', xs', e1, _, hx', _, hL⟩ := La
    cases e1
    rw [hx] at hx'
    cases hx'
    have hm' : xs.length ≤ 1000 := by have := len_tx f; omega
    have sn : ∀ H2, StoreAt H2 a c → But a H1 H2 → _ := fun H2 S2 b2 => odd_snoc (f := f) (xs := xs) (od := od) (l := l) (Q := Q) S2 (b2 l _ hla hx) hm' (AtL.mono (fun _ h => h) (fun p o hp h => b2 p o hp h) _ _ hL) fun v' H' S' b' h' => q v' H' _ S' ((b1'.trans b2).trans b') h' (by rw [snoc_dep]; simp only [F.dep]; omega) (by
      rw [snoc_tx]
      have : (tl od).length ≤ 10 := by rw [← len_tl]; exact hod
      simp only [F.tx, List.length_append, List.length_cons, List.length_nil]
      omega)
    walk_at "st"
    refine ⟨_, .inl (sq_of hx), ite2 (fun _ => sn H1 S1 (fun _ _ _ h => h)) (fun hne => ⟨a, c, _, rfl, S1, by decide, fun v H2 S2 b2 ⟨bb, e⟩ => ⟨bb, e, ?_⟩⟩)⟩
    cases bb with
    | true => exact sn H2 S2 b2
    | false =>
      have hx2 := b2 l _ hla hx
      have b02 := b1'.trans b2
      walk_at "st"
      refine ⟨_, .inl (sq_of hx2), a, c, _, rfl, S2, by omega, fun v H3 S3 b3 ⟨at_, e, a0, a1⟩ => ?_⟩
      subst e
      have hx3 := b3 l _ hla hx2
      have b03 := b02.trans b3
      obtain ⟨i, rfl⟩ : ∃ i : Nat, at_ = (i : Int) := ⟨at_.toNat, by omega⟩
      have hi : i < f.ps.length := by rw [len_ps]; omega
      have hp := List.getElem?_eq_getElem hi
      obtain ⟨x, hxi, t0, y, rfl, ht0, hty, hy⟩ := hg i _ hp
      generalize f.ps[i] = pp at *
      have hdm := dep_mem (mem_get hp)
      have htm := tx_mem (mem_get hp)
      have ei1 : ((i : Int) + 1) = ((i + 1 : Nat) : Int) := by omega
      have hxa : atI xs (i : Int) = some (.ref t0) := atI_nat hxi
      walk_at "st"
      refine ⟨a, c, _, rfl, S3, by decide, fun v H4 S4 b4 ⟨bb, e⟩ => ⟨bb, e, ?_⟩⟩
      have hx4 := b4 l _ hla hx3
      have b04 := b03.trans b4
      have b14 := (b2.trans b3).trans b4
      have hty4 := b14 t0 _ ht0 hty
      have hy4 := hy.store b14
      have hL4 : AtL H4 (fun p => p ≠ a) (Fd f) xs := AtL.mono (fun _ h => h) (fun p o hp h => b14 p o hp h) _ _ hL
      cases bb with
      | true =>
        walk_at "rt"
        refine ⟨_, sq_of hx4, fun p np => ?_⟩
        rw [cut_to (by omega)]
        have k5 : Keeps H4 (L2.upd H4 p (.lst (xs.take i))) := Keeps.new np
        have hp5 : L2.upd H4 p (.lst (xs.take i)) p = some (.lst (xs.take i)) := upd_same
        generalize L2.upd H4 p (.lst (xs.take i)) = H5 at *
        have S5 := Keeps.store S4 k5
        have hx5 := k5 _ _ hx4
        have hL5 := AtL.keep hL4 k5
        have hy5 := hy4.keep k5
        have b05 := b04.trans (Keeps.but k5)
        refine ⟨_, sq_of hx5, _, hxa, _, rfl, _, .inr (.inl (.inl (k5 _ _ hty4))), _, rfl, ?_⟩
        refine ⟨by rw [PySem.sizeLine_eq]; decide, fun t nt => ⟨by rw [PySem.sizeLine_eq]; decide, fun m nm => ?_⟩⟩
        have ta : t ≠ a := S5.ne1 nt
        have k6 : Keeps H5 (L2.upd H5 t (.tup [.str od, y])) := Keeps.new nt
        have h6 : L2.upd H5 t (.tup [.str od, y]) t = some (.tup [.str od, y]) := upd_same
        generalize L2.upd H5 t (.tup [.str od, y]) = H6 at *
        have k7 : Keeps H6 (L2.upd H6 m (.lst [.ref t])) := Keeps.new nm
        have h7 : L2.upd H6 m (.lst [.ref t]) m = some (.lst [.ref t]) := upd_same
        generalize L2.upd H6 m (.lst [.ref t]) = H7 at *
        have k57 := k6.trans k7
        refine ⟨_, k57 _ _ hp5, _, h7, line_of (by rw [List.length_take, List.length_singleton]; omega), fun z nz => ?_⟩
        have k8 : Keeps H7 (L2.upd H7 z (.lst (xs.take i ++ [.ref t]))) := Keeps.new nz
        have h8 : L2.upd H7 z (.lst (xs.take i ++ [.ref t])) z = some (.lst (xs.take i ++ [.ref t])) := upd_same
        generalize L2.upd H7 z (.lst (xs.take i ++ [.ref t])) = H8 at *
        have k58 := k57.trans k8
        refine ⟨_, sq_of (k58 _ _ hx5), fun u nu => ?_⟩
        rw [ei1, cut_from (by omega)]
        have k9 : Keeps H8 (L2.upd H8 u (.lst (xs.drop (i + 1)))) := Keeps.new nu
        have h9 : L2.upd H8 u (.lst (xs.drop (i + 1))) u = some (.lst (xs.drop (i + 1))) := upd_same
        generalize L2.upd H8 u (.lst (xs.drop (i + 1))) = H9 at *
        have k59 := k58.trans k9
        refine ⟨_, k9 _ _ h8, _, h9, line_of (by rw [List.length_append, List.length_take, List.length_drop, List.length_singleton]; omega), fun z2 nz2 => ?_⟩
        have k10 : Keeps H9 (L2.upd H9 z2 (.lst ((xs.take i ++ [.ref t]) ++ xs.drop (i + 1)))) := Keeps.new nz2
        have k510 := k59.trans k10
        obtain ⟨P1, P2⟩ := put_at (q := (tl od, pp.2)) hp rfl
        refine q _ _ (F.of (f.ps.take i ++ (tl od, pp.2) :: f.ps.drop (i + 1))) (Keeps.store S5 k510) (b05.trans (Keeps.but k510)) ⟨z2, _, rfl, S5.ne1 (k59.free nz2), upd_same, by rw [List.length_append, List.length_append, List.length_take, List.length_drop, List.length_singleton]; omega, ?_⟩ ?_ ?_
        · generalize L2.upd H9 z2 (.lst ((xs.take i ++ [.ref t]) ++ xs.drop (i + 1))) = H10 at *
          rw [Fd_of, List.map_append, List.map_cons, List.append_assoc, List.map_take, List.map_drop, ← Fd_ps]
          have sp := AtL.split i _ _ hL5
          have sp2 := AtL.split (i + 1) _ _ hL5
          exact AtL.app _ _ _ _ (AtL.keep sp.1 k510) ⟨_, _, rfl, pr_to ⟨t, y, rfl, ta, by rw [show S (tl od, pp.2).1 = od from S_tl od]; exact k10 _ _ (k9 _ _ (k8 _ _ (k7 _ _ h6))), hy5.keep k510⟩, AtL.keep sp2.2 k510⟩
        · exact P2 _ (by omega) (by simp only; omega)
        · simp only [wt] at P1
          have : (tl od).length ≤ 10 := by rw [← len_tl]; exact hod
          omega
      | false =>
        walk_at "rt"
        refine ⟨_, sq_of hx4, fun p np => ?_⟩
        rw [cut_to (by omega)]
        have k5 : Keeps H4 (L2.upd H4 p (.lst (xs.take i))) := Keeps.new np
        have hp5' : L2.upd H4 p (.lst (xs.take i)) p = some (.lst (xs.take i)) := upd_same
        generalize L2.upd H4 p (.lst (xs.take i)) = H45 at *
        have S45 := Keeps.store S4 k5
        have hx45 := k5 _ _ hx4
        refine ⟨_, sq_of hx45, _, hxa, _, rfl, _, .inr (.inl (.inl (k5 _ _ hty4))), _, rfl, _, sq_of hx45, _, hxa, _, rfl, _, .inr (.inl (.inl (k5 _ _ hty4))), _, rfl, ?_⟩
        have pa : p ≠ a := S4.ne1 np
        cases n with
        | zero => omega
        | succ n =>
        refine ⟨a, c, y, pp.2, rfl, S45, hy4.keep k5, by omega, by omega, fun y2 H5 f2 S5 b5 hy5 hd2 hl2 => ?_⟩
        have hp5 := b5 p _ pa hp5'
        have hx5 := b5 l _ hla hx45
        have hL5 : AtL H5 (fun p => p ≠ a) (Fd f) xs := AtL.mono (fun _ h => h) (fun p o hp h => b5 p o hp h) _ _ (AtL.keep hL4 k5)
        have b05 := (b04.trans (Keeps.but k5)).trans b5
        refine ⟨by rw [PySem.sizeLine_eq]; decide, fun t nt => ⟨by rw [PySem.sizeLine_eq]; decide, fun m nm => ?_⟩⟩
        have ta : t ≠ a := S5.ne1 nt
        have k6 : Keeps H5 (L2.upd H5 t (.tup [.str (S pp.1), y2])) := Keeps.new nt
        have h6 : L2.upd H5 t (.tup [.str (S pp.1), y2]) t = some (.tup [.str (S pp.1), y2]) := upd_same
        generalize L2.upd H5 t (.tup [.str (S pp.1), y2]) = H6 at *
        have k7 : Keeps H6 (L2.upd H6 m (.lst [.ref t])) := Keeps.new nm
        have h7 : L2.upd H6 m (.lst [.ref t]) m = some (.lst [.ref t]) := upd_same
        generalize L2.upd H6 m (.lst [.ref t]) = H7 at *
        have k57 := k6.trans k7
        refine ⟨_, k57 _ _ hp5, _, h7, line_of (by rw [List.length_take, List.length_singleton]; omega), fun z nz => ?_⟩
        have k8 : Keeps H7 (L2.upd H7 z (.lst (xs.take i ++ [.ref t]))) := Keeps.new nz
        have h8 : L2.upd H7 z (.lst (xs.take i ++ [.ref t])) z = some (.lst (xs.take i ++ [.ref t])) := upd_same
        generalize L2.upd H7 z (.lst (xs.take i ++ [.ref t])) = H8 at *
        have k58 := k57.trans k8
        refine ⟨_, sq_of (k58 _ _ hx5), fun u nu => ?_⟩
        rw [ei1, cut_from (by omega)]
        have k9 : Keeps H8 (L2.upd H8 u (.lst (xs.drop (i + 1)))) := Keeps.new nu
        have h9 : L2.upd H8 u (.lst (xs.drop (i + 1))) u = some (.lst (xs.drop (i + 1))) := upd_same
        generalize L2.upd H8 u (.lst (xs.drop (i + 1))) = H9 at *
        have k59 := k58.trans k9
        refine ⟨_, k9 _ _ h8, _, h9, line_of (by rw [List.length_append, List.length_take, List.length_drop, List.length_singleton]; omega), fun z2 nz2 => ?_⟩
        have k10 : Keeps H9 (L2.upd H9 z2 (.lst ((xs.take i ++ [.ref t]) ++ xs.drop (i + 1)))) := Keeps.new nz2
        have k510 := k59.trans k10
        obtain ⟨P1, P2⟩ := put_at (q := (pp.1, f2)) hp rfl
        refine q _ _ (F.of (f.ps.take i ++ (pp.1, f2) :: f.ps.drop (i + 1))) (Keeps.store S5 k510) (b05.trans (Keeps.but k510)) ⟨z2, _, rfl, S5.ne1 (k59.free nz2), upd_same, by rw [List.length_append, List.length_append, List.length_take, List.length_drop, List.length_singleton]; omega, ?_⟩ ?_ ?_
        · generalize L2.upd H9 z2 (.lst ((xs.take i ++ [.ref t]) ++ xs.drop (i + 1))) = H10 at *
          rw [Fd_of, List.map_append, List.map_cons, List.append_assoc, List.map_take, List.map_drop, ← Fd_ps]
          have sp := AtL.split i _ _ hL5
          have sp2 := AtL.split (i + 1) _ _ hL5
          exact AtL.app _ _ _ _ (AtL.keep sp.1 k510) ⟨_, _, rfl, pr_to ⟨t, y2, rfl, ta, by exact k10 _ _ (k9 _ _ (k8 _ _ (k7 _ _ h6))), hy5.keep k510⟩, AtL.keep sp2.2 k510⟩
        · exact P2 _ (by omega) (by simp only; omega)
        · simp only [wt] at P1
          have : (tl od).length ≤ 10 := by rw [← len_tl]; exact hod
          omega
theorem oddtree_all {f f_take f_chance f_pick : Addr} {fd fd_take fd_chance fd_pick : FuncData} (B : Bi mg) (D : Dn K mg "_law_odd_tree" s_oddtree ["store", "tree"] f fd) (D_take : Dn K mg "_law_take" s_take ["store", "many"] f_take fd_take)
    (D_chance : Dn K mg "_law_chance" s_chance ["store", "many"] f_chance fd_chance) (D_pick : Dn K mg "_law_pick" s_pick ["store", "row"] f_pick fd_pick)
    (G_take : FnOk P w K mg base CX0 2 f_take fd_take ["store", "many"] spTake) (G_chance : FnOk P w K mg base CX0 3 f_chance fd_chance ["store", "many"] spChance) (G_pickL : FnOk P w K mg base CX0 3 f_pick fd_pick ["store", "row"] spPickL) : ∀ n : Nat, FnOk P w K mg base CX0 (n + 4) f fd ["store", "tree"] (spOd n)
  | 0 => D.F.ok sc_oddtree (fun vs H Q E h => h.elim) (fun cdv A outer s H vs Q E hr h => h.elim)
  | n + 1 => ok_oddtree B D D D_take D_chance D_pick n G_take G_chance G_pickL (oddtree_all B D D_take D_chance D_pick G_take G_chance G_pickL n)
end
end K01
namespace K01
open PySem PySem.Spec PyProof.Rows L2 TL HotExc Tw
local macro_rules | `(tactic| walk_at "rd") => `(tactic| simp only [start1, wipe, isR, isBool, isInt, isStr, isLst, isTup, tAsg, gName, gSub, tVar, tC, tOp, tUn, tTest, tIfS, tRet, tRetN, tDrop, tB, tAnd, tOr, tNot, tAndV, tOrV, tNotV, tIf, tCB, tCons, tNil, tNext, tCall, tBM, tTup, tLst, rU, rInW, rNinW, Int.reduceNeg, tG, tG2, sP, tDisp, tPairs, tCallS, tCallSD, tCallT, StX.tStar, tCallK, tCallKS, rTupOf, tDrop, rI0, rI, rEq, rNe, scal, forR_eq, forR2_eq, forS_eq, forL_eq, lcT_eq, lcRT_eq, lcS_eq, rLenX, rLenS, rListOf, tRevL, rMulS, rRepL, rCatL, rSumN, rMaxN, tBM0, rPop, tAug, ipI,  tPart, tNoPart, CwR.tReplC, rAllK, rInSg, rNinSg, sgn_inj, rAddS, rInSt, tChain, tM1, tM0, rSplitN, rJoinN, exists_eq, rIntI, rIntB, rIntS, rStrI, rAbs, rOrd, rMin, rMax, rIxL, rIxX, rSetL, rAppend, rIxS, rSlS, rSlL, tSl, List.map_cons, List.map_nil, List.replicate_succ, List.replicate_zero, List.length_cons, List.length_nil, Nat.reduceSub, Nat.reduceAdd, Nat.zero_add, Nat.sub_self, List.getElem?_cons_zero, List.getElem?_cons_succ, List.set_cons_zero, List.set_cons_succ, List.append_nil, List.nil_append, List.cons_append, Option.some.injEq, not_true_eq_false, reduceCtorEq, exists_eq_left', exists_eq_left, exists_eq', exists_and_left, exists_and_right, V.int.injEq, V.str.injEq, V.bl.injEq, V.ref.injEq, List.cons.injEq, and_true, true_and, and_assoc, decide_eq_true_eq, Bool.not_eq_true', decide_eq_false_iff_not, ite_true, ite_false, if_true, if_false, Bool.not_true, Bool.not_false, Bool.false_eq_true, eq_self_iff_true, reduceIte, ne_eq, Int.reduceEq, not_false_eq_true])
local macro_rules | `(tactic| walk_at "rt") => `(tactic| try walk_at "rd")
local macro_rules | `(tactic| walk_at "st") => `(tactic| (walk_at "rt"; refine r_seq ?_; walk_at "rt"))
local macro_rules | `(tactic| walk_at "hp") => `(tactic| first | assumption | exact upd_same | (rw [upd_ne (by assumption)]; walk_at "hp"))
local macro_rules | `(tactic| walk_at "ex1") => `(tactic| ((with_reducible refine Exists.intro ?w (And.intro ?hx ?_)); (case hx => first | exact sq_of (by walk_at "hp") | exact .inl (sq_of (by walk_at "hp")) | exact rfl | (show _ = some (HO.lst _); walk_at "hp"))))
local macro_rules | `(tactic| walk_at "ex") => `(tactic| repeat (first | walk_at "ex1" | walk_at "rd"))
abbrev s_law : Stmt := topS 41
theorem sc_law : FnScope ["script", "store", "tree", "other", "kept", "text", "told", "tail", "tries"] ["script"] (defScope s_law) := ⟨rfl, rfl, rfl, by decide +kernel, rfl, by decide +kernel, by decide +kernel⟩
theorem room66 : Room 66 callerA := ⟨rfl, by decide, by decide⟩
/-- a tree that can be written and read -/
structure Fit (f : F) : Prop where
  good : f.good
  dep : f.dep ≤ 13
  cnt : f.cnt ≤ 2000
theorem Fit.tx {f : F} (h : Fit f) : f.tx.length ≤ 16000 := by have := tx_len h.good; have := h.cnt; omega
theorem Fit.flt {f : F} (h : Fit f) : fault f.tx = none := fault_tx h.good h.dep h.cnt
theorem Fit.ddep {f : F} (h : Fit f) : (Dat.lst (Fd f)).dep ≤ 28 := by
  have h1 := Fd_dep f
  have h2 := h.dep
  simp only [Dat.dep]
  omega
abbrev na (a : Addr) : Addr → Prop := fun p => p ≠ a
theorem deed3 {v : V} (h : v ∈ [V.str (Str.ofString "b"), V.str (Str.ofString "zz9999"), V.str (Str.ofString "-")]) : ∃ d, v = .str (S d) ∧ okd d := by
  have nb : low 98 := ⟨by decide, by decide⟩
  simp only [List.mem_cons, List.not_mem_nil, or_false] at h
  rcases h with rfl | rfl | rfl
  · exact ⟨[98], congrArg V.str (tl_inj (by decide +kernel)), .inr (nm_one.mpr nb)⟩
  · refine ⟨[122, 122, 57, 57, 57, 57], congrArg V.str (tl_inj (by decide +kernel)), .inr ⟨⟨by decide, by decide⟩, by decide, fun x hx => ?_⟩⟩
    simp only [List.mem_cons, List.not_mem_nil, or_false] at hx
    rcases hx with rfl | rfl | rfl | rfl | rfl
    · exact .inl ⟨by decide, by decide⟩
    all_goals exact .inr ⟨by decide, by decide⟩
  · exact ⟨[45], congrArg V.str (tl_inj (by decide +kernel)), .inl rfl⟩
theorem tdep {f : F} (h : Fit f) : (Dat.tup [.str (Str.ofString "gave"), .lst (Fd f)]).dep ≤ 30 := by
  have := h.ddep
  simp only [Dat.dep, depL] at this ⊢
  omega
section
variable {P : Program} {w : World} {K : PySem.W.Frag} {mg : Str → Option Value} {base : Heap}
theorem ok_law {C f f_store f_sz f_lp f_ch f_pick f_tree f_take f_copy f_tt f_wt f_same f_cn f_ask f_rt f_rr f_wr f_sp f_od : Addr} {fd fd_store fd_sz fd_lp fd_ch fd_pick fd_tree fd_take fd_copy fd_tt fd_wt fd_same fd_cn fd_ask fd_rt fd_rr fd_wr fd_sp fd_od : FuncData} (B : Bi mg) (D : Dn K mg "law" s_law ["script"] f fd)
    (D_store : Dn K mg "_law_store" s_store ["script"] f_store fd_store) (D_sizedtree : Dn K mg "_law_sized_tree" s_sizedtree ["store"] f_sz fd_sz) (D_Ltreepairs : Dn K mg "_law_tree_pairs" s_Ltreepairs ["tree"] f_lp fd_lp) (D_chance : Dn K mg "_law_chance" s_chance ["store", "many"] f_ch fd_ch) (D_pick : Dn K mg "_law_pick" s_pick ["store", "row"] f_pick fd_pick)
    (D_tree : Dn K mg "_law_tree" s_tree ["store", "many", "deep"] f_tree fd_tree) (D_take : Dn K mg "_law_take" s_take ["store", "many"] f_take fd_take) (D_copy : Dn K mg "_law_copy" s_copy ["thing"] f_copy fd_copy) (D_treetext : Dn K mg "_law_tree_text" s_treetext ["tree"] f_tt fd_tt) (D_writetree : Dn K mg "write_tree" s_writetree ["tree"] f_wt fd_wt)
    (D_same : Dn K mg "_law_same" s_same ["one", "two"] f_same fd_same) (D_counted : Dn K mg "_law_counted" s_counted ["tree"] f_cn fd_cn) (D_asked : Dn K mg "_law_asked" s_asked ["text"] f_ask fd_ask) (D_readtree : Dn K mg "read_tree" s_readtree ["text"] f_rt fd_rt) (D_readright : Dn K mg "_law_read_right" s_readright ["text"] f_rr fd_rr)
    (D_writtenright : Dn K mg "_law_written_right" s_writtenright ["tree", "text"] f_wr fd_wr) (D_spoilttree : Dn K mg "_law_spoilt_tree" s_spoilttree ["store", "text"] f_sp fd_sp) (D_oddtree : Dn K mg "_law_odd_tree" s_oddtree ["store", "tree"] f_od fd_od)
    (G_store : FnOk P w K mg base CX0 1 f_store fd_store ["script"] (spStore K)) (G_sizedtree : FnOk P w K mg base CX0 7 f_sz fd_sz ["store"] spSized) (G_Ltreepairs : FnOk P w K mg base CX0 15 f_lp fd_lp ["tree"] (spT Rcn 14)) (G_chance : FnOk P w K mg base CX0 3 f_ch fd_ch ["store", "many"] spChance) (G_pickL : FnOk P w K mg base CX0 3 f_pick fd_pick ["store", "row"] spPickL)
    (G_tree : FnOk P w K mg base CX0 6 f_tree fd_tree ["store", "many", "deep"] spTree) (G_take : FnOk P w K mg base CX0 2 f_take fd_take ["store", "many"] spTake) (G_copy : FnOk P w K mg base CX0 31 f_copy fd_copy ["thing"] (spCp 30)) (G_treetext : FnOk P w K mg base CX0 15 f_tt fd_tt ["tree"] (spT Rtx 14)) (G_writetree : FnOk P w K mg base CX0 15 f_wt fd_wt ["tree"] (spT Rtx 14))
    (G_same : FnOk P w K mg base CX0 62 f_same fd_same ["one", "two"] (spSame 30)) (G_counted : FnOk P w K mg base CX0 63 f_cn fd_cn ["tree"] spCn) (G_asked : FnOk P w K mg base CX0 5 f_ask fd_ask ["text"] spAsk) (G_readtree : FnOk P w K mg base (L2N.CX P w) 4 f_rt fd_rt ["text"] (spRead C)) (G_readright : FnOk P w K mg base CX0 64 f_rr fd_rr ["text"] spRR)
    (G_writtenright : FnOk P w K mg base CX0 63 f_wr fd_wr ["tree", "text"] spWr) (G_spoilttree : FnOk P w K mg base CX0 4 f_sp fd_sp ["store", "text"] spSpl) (G_oddtree : FnOk P w K mg base CX0 10 f_od fd_od ["store", "tree"] (spOd 6)) : FnOk P w K mg base CX0 66 f fd ["script"] (spLaw K) := by
  refine D.F.ok sc_law (fun vs H Q E h => ?_) (fun cdv A outer s H vs Q E hr h => ?_)
  · obtain ⟨a, ns, rfl, _⟩ := h
    rfl
  · obtain ⟨sa, ns, rfl, hs, hl, q⟩ := h
    refine ⟨_, (pss_cons (ps_set (i := 1) sc_law.nd rfl (.inl rfl) (pe_call G_store (hr.mono (by omega)) (by rfl) D_store.g D_store.F.kp D_store.b .nil pass0 (pa_cons (pv 0) pa_nil)))
      (pss_cons (ps_set (i := 2) sc_law.nd rfl (.inl rfl) (pe_call G_sizedtree (hr.mono (by omega)) (by rfl) D_sizedtree.g D_sizedtree.F.kp D_sizedtree.b .nil pass0 (pa_cons (pv 1) pa_nil)))
      (C8.pss_cut (ps_if (PW.pt (pw_and (pt_cmpR op_gt (pe_callB (call_lenXK (K := K)) (by rfl) B.len PySem.boot_len (pa_cons (pv 2) pa_nil)) pe_int (nomark _)) (pw_and (pt_cmpR op_lt (pe_call G_Ltreepairs (hr.mono (by omega)) (by rfl) D_Ltreepairs.g D_Ltreepairs.F.kp D_Ltreepairs.b .nil pass0 (pa_cons (pv 2) pa_nil)) pe_int (nomark _)) (pw_and1 (pt_val (pe_call G_chance (hr.mono (by omega)) (by rfl) D_chance.g D_chance.F.kp D_chance.b .nil pass0 (pa_cons (pv 1) (pa_cons pe_int pa_nil)))))))) (pss_one (ps_expr (pe_bm PySem.F.plainAttrs_list PySem.F.slot_list_append PySem.F.type_list_append mt_append (pv 2) (pa_cons (pe_tup (pa_cons (pe_call G_pickL (hr.mono (by omega)) (by rfl) D_pick.g D_pick.F.kp D_pick.b .nil pass0 (pa_cons (pv 1) (pa_cons (pe_lst (pa_cons pe_str (pa_cons pe_str (pa_cons pe_str pa_nil)))) pa_nil))) (pa_cons (pe_ix (ix_sxK (K := K)) (pe_ix (ix_listK (K := K)) (pv 2) pe_int (fun _ _ => rfl)) pe_int (fun _ _ => rfl)) pa_nil))) pa_nil)))) pss_nil)
      (pss_cons (ps_set (i := 3) sc_law.nd rfl (.inl rfl) (pe_call G_tree (hr.mono (by omega)) (by rfl) D_tree.g D_tree.F.kp D_tree.b .nil pass0 (pa_cons (pv 1) (pa_cons (pe_call G_take (hr.mono (by omega)) (by rfl) D_take.g D_take.F.kp D_take.b .nil pass0 (pa_cons (pv 1) (pa_cons pe_int pa_nil))) (pa_cons pe_int pa_nil)))))
      (pss_cons (ps_set (i := 4) sc_law.nd rfl (.inl rfl) (pe_call G_copy (hr.mono (by omega)) (by rfl) D_copy.g D_copy.F.kp D_copy.b .nil pass0 (pa_cons (pv 2) pa_nil)))
      (pss_cons (ps_set (i := 5) sc_law.nd rfl (.inl rfl) (pe_call G_treetext (hr.mono (by omega)) (by rfl) D_treetext.g D_treetext.F.kp D_treetext.b .nil pass0 (pa_cons (pv 2) pa_nil)))
      (pss_cons (ps_if (PW.pt (pw_or (pt_not (pt_val (pe_call G_same (hr.mono (by omega)) (by rfl) D_same.g D_same.F.kp D_same.b .nil pass0 (pa_cons (pe_call G_writetree (hr.mono (by omega)) (by rfl) D_writetree.g D_writetree.F.kp D_writetree.b .nil pass0 (pa_cons (pv 2) pa_nil)) (pa_cons (pv 5) pa_nil))))) (pw_or (pt_not (pt_val (pe_call G_counted (hr.mono (by omega)) (by rfl) D_counted.g D_counted.F.kp D_counted.b .nil pass0 (pa_cons (pv 2) pa_nil)))) (pw_or1 (pt_not (pt_val (pe_call G_counted (hr.mono (by omega)) (by rfl) D_counted.g D_counted.F.kp D_counted.b .nil pass0 (pa_cons (pv 3) pa_nil)))))))) (pss_one (ps_ret pe_bl)) pss_nil)
      (pss_cons (ps_set (i := 6) sc_law.nd rfl (.inl rfl) (pe_call G_asked (hr.mono (by omega)) (by rfl) D_asked.g D_asked.F.kp D_asked.b .nil pass0 (pa_cons (pv 5) pa_nil)))
      (pss_cons (ps_if (PW.pt (pw_or (pt_not (pt_val (pe_call G_same (hr.mono (by omega)) (by rfl) D_same.g D_same.F.kp D_same.b .nil pass0 (pa_cons (pv 6) (pa_cons (pe_tup (pa_cons pe_str (pa_cons (pv 4) pa_nil))) pa_nil))))) (pw_or1 (pt_not (pt_val (pe_call G_same (hr.mono (by omega)) (by rfl) D_same.g D_same.F.kp D_same.b .nil pass0 (pa_cons (pe_callS G_readtree (hr.mono (by omega)) rfl D_readtree.g D_readtree.F.kp D_readtree.b passS0 (pa_cons (pe_call G_treetext (hr.mono (by omega)) (by rfl) D_treetext.g D_treetext.F.kp D_treetext.b .nil pass0 (pa_cons (pv 3) pa_nil)) pa_nil)) (pa_cons (pv 3) pa_nil)))))))) (pss_one (ps_ret pe_bl)) pss_nil)
      (pss_cons (ps_expr (pe_bm PySem.F.plainAttrs_list PySem.F.slot_list_append PySem.F.type_list_append mt_append (pe_ix (ix_sxK (K := K)) (pv 6) pe_int (fun _ _ => rfl)) (pa_cons (pe_tup (pa_cons pe_str (pa_cons (pe_lst pa_nil) pa_nil))) pa_nil)))
      (C8.pss_cut (ps_if (pt_cmpR op_gt (pe_callB (call_lenXK (K := K)) (by rfl) B.len PySem.boot_len (pa_cons (pe_ix (ix_sxK (K := K)) (pv 6) pe_int (fun _ _ => rfl)) pa_nil)) pe_int (nomark _)) (pss_one (ps_expr (pe_bm PySem.F.plainAttrs_list PySem.F.slot_list_append PySem.F.type_list_append mt_append (pe_ix (ix_sxK (K := K)) (pe_ix (ix_listK (K := K)) (pe_ix (ix_sxK (K := K)) (pv 6) pe_int (fun _ _ => rfl)) pe_int (fun _ _ => rfl)) pe_int (fun _ _ => rfl)) (pa_cons (pe_tup (pa_cons pe_str (pa_cons (pe_lst pa_nil) pa_nil))) pa_nil)))) pss_nil)
      (pss_cons (ps_if (PW.pt (pw_or (pt_not (pt_val (pe_call G_same (hr.mono (by omega)) (by rfl) D_same.g D_same.F.kp D_same.b .nil pass0 (pa_cons (pe_callS G_readtree (hr.mono (by omega)) rfl D_readtree.g D_readtree.F.kp D_readtree.b passS0 (pa_cons (pv 5) pa_nil)) (pa_cons (pv 4) pa_nil))))) (pw_or1 (pt_not (pt_val (pe_call G_same (hr.mono (by omega)) (by rfl) D_same.g D_same.F.kp D_same.b .nil pass0 (pa_cons (pv 2) (pa_cons (pv 4) pa_nil)))))))) (pss_one (ps_ret pe_bl)) pss_nil)
      (pss_cons (ps_set (i := 7) sc_law.nd rfl (.inl rfl) (pe_call G_pickL (hr.mono (by omega)) (by rfl) D_pick.g D_pick.F.kp D_pick.b .nil pass0 (pa_cons (pv 1) (pa_cons (pe_lst (pa_cons pe_str (pa_cons pe_str (pa_cons pe_str (pa_cons pe_str (pa_cons pe_str (pa_cons pe_str (pa_cons pe_str pa_nil)))))))) pa_nil))))
      (pss_cons (ps_if (PW.pt (pw_or (pt_not (pt_val (pe_call G_readright (hr.mono (by omega)) (by rfl) D_readright.g D_readright.F.kp D_readright.b .nil pass0 (pa_cons (pe_op op_addS (pv 5) (pv 7)) pa_nil)))) (pw_or1 (pt_not (pt_val (pe_call G_writtenright (hr.mono (by omega)) (by rfl) D_writtenright.g D_writtenright.F.kp D_writtenright.b .nil pass0 (pa_cons (pv 4) (pa_cons (pv 5) pa_nil)))))))) (pss_one (ps_ret pe_bl)) pss_nil)
      (pss_cons (ps_for PassesOwn.never rfl (pi_range1 (by rfl) B.range (pa_cons (pe_op op_add pe_int (pe_op op_mul pe_int (pe_callTy call_intB (by rfl) B.int_ (by decide +kernel) (pa_cons (pe_cmpR op_lt (pe_callB call_lenS (by rfl) B.len PySem.boot_len (pa_cons (pv 5) pa_nil)) pe_int (nomark _)) pa_nil)))) pa_nil)) (pg_name (i := 8) sc_law.nd rfl (.inl rfl)) (pss_one (ps_if (pt_not (pt_val (pe_call G_readright (hr.mono (by omega)) (by rfl) D_readright.g D_readright.F.kp D_readright.b .nil pass0 (pa_cons (pe_call G_spoilttree (hr.mono (by omega)) (by rfl) D_spoilttree.g D_spoilttree.F.kp D_spoilttree.b .nil pass0 (pa_cons (pv 1) (pa_cons (pv 5) pa_nil))) pa_nil)))) (pss_one (ps_ret pe_bl)) pss_nil)))
      (pss_cons (ps_if (pt_not (pt_val (pe_call G_readright (hr.mono (by omega)) (by rfl) D_readright.g D_readright.F.kp D_readright.b .nil pass0 (pa_cons (pe_call G_spoilttree (hr.mono (by omega)) (by rfl) D_spoilttree.g D_spoilttree.F.kp D_spoilttree.b .nil pass0 (pa_cons (pv 1) (pa_cons (pe_call G_treetext (hr.mono (by omega)) (by rfl) D_treetext.g D_treetext.F.kp D_treetext.b .nil pass0 (pa_cons (pv 3) pa_nil)) pa_nil))) pa_nil)))) (pss_one (ps_ret pe_bl)) pss_nil)
      (pss_one (ps_ret (pe_and (pe_call G_counted (hr.mono (by omega)) (by rfl) D_counted.g D_counted.F.kp D_counted.b .nil pass0 (pa_cons (pe_call G_oddtree (hr.mono (by omega)) (by rfl) D_oddtree.g D_oddtree.F.kp D_oddtree.b .nil pass0 (pa_cons (pv 1) (pa_cons (pv 3) pa_nil))) pa_nil)) (pe_one (pe_call G_same (hr.mono (by omega)) (by rfl) D_same.g D_same.F.kp D_same.b .nil pass0 (pa_cons (pe_call G_writetree (hr.mono (by omega)) (by rfl) D_writetree.g D_writetree.F.kp D_writetree.b .nil pass0 (pa_cons (pv 2) pa_nil)) (pa_cons (pv 5) pa_nil))))))))))))))))))))))), ?_⟩
    walk_at "st"
    refine ⟨sa, ns, rfl, hs, hl, fun a c H1 same nna S1 => ?_⟩
    walk_at "st"
    refine ⟨a, c, rfl, S1, fun r H2 f xs S2 b2 nr g1 g2 g3 g4 g5 => ?_⟩
    have ra := S1.ne1 nr
    have fit0 : Fit f := ⟨g1, g2, g3⟩
    have hc2 := len_cnt f
    have T2 : TrA H2 (na a) f (.ref r) := ⟨r, xs, rfl, ra, g4, by rw [g5.length, Fd_len]; omega, AtL.mono (fun p h => S1.ne1 h.1) (fun _ _ _ h => h) _ _ g5⟩
    walk_at "rt"
    refine r_cut (fun σ H' => StoreAt H' a c ∧ ∃ f, Fit f ∧ TrA H' (na a) f (.ref r) ∧ σ = [some (.ref sa), some (.ref a), some (.ref r), none, none, none, none, none, none]) (fun N kk => ?_) ?_
    · have no : ∀ H3, StoreAt H3 a c → But a H2 H3 → N [some (.ref sa), some (.ref a), some (.ref r), none, none, none, none, none, none] H3 := fun H3 S3 b3 => kk _ _ ⟨S3, f, fit0, T2.store b3, rfl⟩
      walk_at "rt"
      refine ⟨_, .inl (sq_of g4), ite2 (fun hpos => ?_) (fun _ => no H2 S2 (fun _ _ _ h => h))⟩
      refine ⟨.ref r, f, rfl, T2.any, g2, by have := fit0.tx; omega, fun H3 k3 => ?_⟩
      have S3 := Keeps.store S2 k3
      refine ⟨_, rfl, ite2 (fun h900 => ?_) (fun _ => no H3 S3 (Keeps.but k3))⟩
      refine ⟨a, c, _, rfl, S3, by decide, fun v H4 S4 b4 ⟨bb, e⟩ => ⟨bb, e, ?_⟩⟩
      have b24 := (Keeps.but k3).trans b4
      cases bb with
      | false => exact no H4 S4 b24
      | true =>
        have g44 := b24 r _ ra g4
        have L4 : AtL H4 (fun p => p ≠ a ∧ p ≠ r) (Fd f) xs := AtL.mono (fun p h => ⟨S1.ne1 h.1, h.2⟩) (fun p o h e => b24 p o (S1.ne1 h.1) e) _ _ g5
        walk_at "rt"
        refine ⟨.inl ⟨rfl, _, sq_of g44⟩, by rw [PySem.sizeLine_eq]; decide, fun p np => ⟨a, c, p, _, rfl, S4.new np, upd_same, S4.ne1 np, List.cons_ne_nil _ _, Nat.le_of_ble_eq_true rfl, fun v H5 S5 b5 hv => ?_⟩⟩
        obtain ⟨d, rfl, od⟩ := deed3 hv
        have b45 := But.pushNew np b5
        have hr5 := b45 r _ ra g44
        have L5 : AtL H5 (fun p => p ≠ a ∧ p ≠ r) (Fd f) xs := AtL.mono (fun _ h => h) (fun p o h e => b45 p o h.1 e) _ _ L4
        clear b5
        have hlen := L5.length
        rw [Fd_len] at hlen
        have h0 : 0 < f.ps.length := by rw [len_ps]; omega
        have hp0 := List.getElem?_eq_getElem h0
        generalize f.ps[0] = p0 at hp0
        obtain ⟨x0, hx0, hat⟩ := AtL.get _ _ 0 (tw p0) L5 (by rw [Fd_ps, List.getElem?_map, hp0]; rfl)
        obtain ⟨t0, y, rfl, ht0, hty, hy⟩ := pr_of hat
        have hm0 := mem_get hp0
        refine ⟨_, sq_of hr5, _, by show atI xs ((0 : Nat) : Int) = _; exact atI_nat hx0, _, rfl, _, .inr (.inl (.inl hty)), _, rfl, by rw [PySem.sizeLine_eq]; decide, fun t nt => ?_⟩
        have rt := ne_of_none hr5 nt
        refine ⟨xs, (upd_ne rt).trans hr5, size_ok (by omega), ?_⟩
        have ta := S5.ne1 nt
        have hd0 := dep_mem hm0
        have hc0 := cnt_mem hm0
        have gm := good_mem g1 hm0
        have h900' : f.cnt < 900 := by simp only [icnt] at h900; omega
        have kk' : ∀ p o, (p ≠ a ∧ p ≠ r) → H5 p = some o → L2.upd (L2.upd H5 t (.tup [.str (S d), y])) r (.lst (xs ++ [.ref t])) p = some o := fun p o h e => by
          rw [upd_ne h.2, upd_ne (ne_of_none e nt)]
          exact e
        refine kk _ _ ⟨(S5.new nt).put ra (S1.ne2 nr), f.snoc d p0.2, ⟨snoc_good g1 od gm.2, by rw [snoc_dep]; omega, by rw [snoc_cnt]; omega⟩, ⟨r, _, rfl, ra, upd_same, by rw [List.length_append, List.length_singleton]; omega, ?_⟩, rfl⟩
        rw [Fd_snoc]
        refine AtL.snoc _ _ _ _ (AtL.mono (fun _ h => h.1) kk' _ _ L5) (pr_to ⟨t, y, rfl, ta, ?_, At.mono (fun _ h => h.1) kk' _ _ hy⟩)
        rw [upd_ne rt.symm, upd_same]
    rintro σ H3 ⟨S3, f, fit, T3, rfl⟩
    clear g4 g5 T2 b2 S2
    walk_at "st"
    refine ⟨a, c, _, rfl, S3, by decide, fun v H4 S4 b4 ⟨m, e, m0, m1⟩ => ?_⟩
    subst e
    obtain ⟨m, rfl⟩ : ∃ i : Nat, m = (i : Int) := ⟨m.toNat, by omega⟩
    refine ⟨a, c, m, 4, rfl, S4, by omega, by decide, fun r2 H5 f2 xs2 S5 b5 nr2 g1 g2 g3 g4 g5 => ?_⟩
    have ra2 := S4.ne1 nr2
    have fit2 : Fit f2 := ⟨g1, by omega, by omega⟩
    have hc2 := len_cnt f2
    have U5 : TrA H5 (na a) f2 (.ref r2) := ⟨r2, xs2, rfl, ra2, g4, by rw [g5.length, Fd_len]; omega, AtL.mono (fun p h => S4.ne1 h.1) (fun _ _ _ h => h) _ _ g5⟩
    have T5 := T3.store (b4.trans b5)
    have dd2 : f2.dep ≤ 4 := g2
    have cc2 : f2.cnt ≤ 8 := by omega
    clear g4 g5 S3 T3 S4
    walk_at "st"
    refine ⟨.ref r, _, .lst (Fd f), rfl, T5, Nat.le_trans fit.ddep (by decide), fun kv H6 k6 hkv => ?_⟩
    have S6 := Keeps.store S5 k6
    have K6 : TrA H6 (na a) f kv := At.mono (fun p h => S5.ne1 h) (fun _ _ _ h => h) _ _ hkv
    have T6 := T5.keep k6
    have U6 := U5.keep k6
    clear T5 U5 S5 hkv
    have ftx := fit.tx
    have ftx2 := fit2.tx
    walk_at "st"
    refine ⟨.ref r, f, rfl, T6.any, fit.dep, by omega, fun H7 k7 => ?_⟩
    walk_at "st"
    refine ⟨.ref r, f, rfl, (T6.keep k7).any, fit.dep, by omega, fun H8 k8 => ?_⟩
    refine same_ok (d := .str (S f.tx)) rfl rfl (Nat.zero_le _) ⟨_, rfl, ?_⟩
    have k68 := k7.trans k8
    simp only [Bool.true_eq_false, if_false, reduceIte, reduceCtorEq]
    refine ⟨.ref r, f, rfl, (T6.keep k68).any, fit.dep, by omega, fun H9 k9 => ⟨_, rfl, ?_⟩⟩
    simp only [Bool.true_eq_false, if_false, reduceIte, reduceCtorEq]
    have k69 := k68.trans k9
    refine ⟨.ref r2, f2, rfl, (U6.keep k69).any, fit2.dep, by omega, fun H10 k10 => ⟨_, rfl, ?_⟩⟩
    simp only [Bool.true_eq_false, if_false, reduceIte, reduceCtorEq]
    have k610 := k69.trans k10
    have T7 := T6.keep k610
    have U7 := U6.keep k610
    have K7 := K6.keep k610
    have S7 := Keeps.store S6 k610
    clear T6 U6 K6 S6 k7 k8 k9 k10 k68 k69 k610 H7 H8 H9 k6
    generalize H10 = H7 at *
    walk_at "st"
    refine ⟨S f.tx, rfl, by rw [S_len]; omega, fun u qa H8 g e8 k8 gg gt gd hq nu hu => ?_, fun k e => absurd (show fault f.tx = some k from e) (by rw [fit.flt]; simp)⟩
    have gf : g = f := tx_inj gg fit.good (by rw [gt, tl_S])
    subst gf
    walk_at "st"
    refine ⟨by rw [PySem.sizeLine_eq]; decide, fun p np => ?_⟩
    refine same_ok (d := .tup [.str (Str.ofString "gave"), .lst (Fd g)]) (at_tup ((Keeps.new np) _ _ hu) (Nat.le_of_ble_eq_true rfl) ⟨_, _, rfl, rfl, _, _, rfl, (hq.keep (Keeps.new np)).any, rfl⟩) (at_tup upd_same (Nat.le_of_ble_eq_true rfl) ⟨_, _, rfl, rfl, _, _, rfl, (K7.keep (k8.trans (Keeps.new np))).any, rfl⟩) (tdep fit) ⟨_, rfl, ?_⟩
    have k9 : Keeps H8 (L2.upd H8 p (.tup [.str (Str.ofString "gave"), kv])) := Keeps.new np
    generalize L2.upd H8 p (.tup [.str (Str.ofString "gave"), kv]) = H9 at k9 ⊢
    simp only [Bool.true_eq_false, if_false, reduceIte, reduceCtorEq]
    refine ⟨.ref r2, f2, rfl, (U7.keep (k8.trans k9)).any, fit2.dep, by omega, fun H10 k10 => ?_⟩
    refine ⟨S f2.tx, rfl, by rw [S_len]; omega, fun r' H11 w2 e11 k11 gg2 gt2 gd2 hq2 => ?_, fun k e => absurd (show fault f2.tx = some k from e) (by rw [fit2.flt]; simp)⟩
    have gf2 : w2 = f2 := tx_inj gg2 fit2.good (by rw [gt2, tl_S])
    subst gf2
    have k8b := (k9.trans k10).trans k11
    refine same_ok (d := .lst (Fd w2)) hq2.any (U7.keep (k8.trans k8b)).any (Nat.le_trans fit2.ddep (by decide)) ⟨_, rfl, ?_⟩
    simp only [Bool.true_eq_false, if_false, reduceIte, reduceCtorEq]
    obtain ⟨qa', xq, eqq, nqa, hxq, hmq, hnq, hgq⟩ := hq.get
    cases eqq
    have hu11 := k8b _ _ hu
    have hxq11 := k8b _ _ hxq
    have k711 := k8.trans k8b
    walk_at "st"
    refine ⟨_, .inr (.inl (.inl hu11)), _, rfl, .inl ⟨rfl, _, sq_of hxq11⟩, Nat.zero_le _, fun e ne => ⟨by rw [PySem.sizeLine_eq]; decide, fun t nt => ?_⟩⟩
    have kA : Keeps H11 (L2.upd (L2.upd H11 e (.lst [])) t (.tup [.str (Str.ofString "a"), .ref e])) := (Keeps.new ne).trans (Keeps.new nt)
    generalize L2.upd (L2.upd H11 e (.lst [])) t (.tup [.str (Str.ofString "a"), .ref e]) = H12 at kA ⊢
    have hxl : xq.length ≤ 2000 := by have := len_cnt g; have := fit.cnt; omega
    refine ⟨qa, rfl, xq, kA _ _ hxq11, size_ok (by omega), ?_⟩
    have k7C : Keeps H7 (L2.upd H12 qa (.lst (xq ++ [.ref t]))) := fun b o h => by
      rw [upd_ne (fun z => by rw [z, nqa] at h; cases h)]
      exact kA _ _ (k711 _ _ h)
    have huC : L2.upd H12 qa (.lst (xq ++ [.ref t])) u = some (.tup [.str (Str.ofString "gave"), .ref qa]) := (upd_ne (fun z => by rw [z, hxq11] at hu11; cases hu11)).trans (kA _ _ hu11)
    have hqC : L2.upd H12 qa (.lst (xq ++ [.ref t])) qa = some (.lst (xq ++ [.ref t])) := upd_same
    have oth : ∀ b o, b ≠ qa → H8 b = some o → L2.upd H12 qa (.lst (xq ++ [.ref t])) b = some o := fun b o h1 h2 => (upd_ne h1).trans (kA _ _ (k8b _ _ h2))
    generalize L2.upd H12 qa (.lst (xq ++ [.ref t])) = H13 at *
    refine r_cut (fun σ H' => Keeps H7 H' ∧ σ = [some (.ref sa), some (.ref a), some (.ref r), some (.ref r2), some kv, some (.str (S g.tx)), some (.ref u), none, none]) (fun N kk => ?_) ?_
    · walk_at "rt"
      refine ⟨_, .inr (.inl (.inl huC)), _, rfl, _, rfl, _, .inl (sq_of hqC), ite2 (fun hlen => ?_) (fun _ => kk _ _ ⟨k7C, rfl⟩)⟩
      have h0 : 0 < xq.length := by rw [List.length_append, List.length_singleton] at hlen; omega
      have h0' : 0 < g.ps.length := by rw [len_ps]; omega
      obtain ⟨x0, hx0, t0, y, rfl, nt0, hty, hy⟩ := hgq 0 _ (List.getElem?_eq_getElem h0')
      generalize g.ps[0] = p0 at hty hy
      obtain ⟨q0, ys, rfl, nq0, hys, hysl, _⟩ := hy.get
      have tq : t0 ≠ qa := fun z => by rw [z, hxq] at hty; cases hty
      have hz : ∃ zs, H13 q0 = some (.lst zs) ∧ zs.length < sizeLine := by
        by_cases e0 : q0 = qa
        · exact ⟨_, by rw [e0]; exact hqC, size_ok (by rw [List.length_append, List.length_singleton]; omega)⟩
        · exact ⟨ys, oth _ _ e0 hys, size_ok hysl⟩
      obtain ⟨zs, hzs, hzl⟩ := hz
      have hx0c : atI (xq ++ [V.ref t]) ((0 : Nat) : Int) = some (.ref t0) := atI_nat (getElem?_left hx0)
      refine ⟨_, .inr (.inl (.inl huC)), _, rfl, _, rfl, _, sq_of hqC, _, hx0c, _, rfl, _, .inr (.inl (.inl (oth _ _ tq hty))), _, rfl, .inl ⟨rfl, _, sq_of hzs⟩, Nat.zero_le _, fun e2 ne2 => ⟨by rw [PySem.sizeLine_eq]; decide, fun t2 nt2 => ?_⟩⟩
      have kB : Keeps H13 (L2.upd (L2.upd H13 e2 (.lst [])) t2 (.tup [.str (Str.ofString "-"), .ref e2])) := (Keeps.new ne2).trans (Keeps.new nt2)
      generalize L2.upd (L2.upd H13 e2 (.lst [])) t2 (.tup [.str (Str.ofString "-"), .ref e2]) = H14 at kB ⊢
      refine ⟨q0, rfl, zs, kB _ _ hzs, hzl, kk _ _ ⟨fun b o h => ?_, rfl⟩⟩
      rw [upd_ne (fun z => by rw [z, nq0] at h; cases h)]
      exact kB _ _ (k7C _ _ h)
    rintro σ H14 ⟨k14, rfl⟩
    clear hqC huC oth k7C hgq hxq hu hq hu11 hxq11 k711 k8b kA nt ne
    have T14 := T7.keep k14
    have U14 := U7.keep k14
    have K14 := K7.keep k14
    have S14 := Keeps.store S7 k14
    clear T7 U7 K7 S7
    have rd : ∀ (fx : F) (H' : Hp) (Q' : VK), Fit fx → (∀ r' H'', Keeps H' H'' → TrA H'' (fun p => H' p = none) fx (.ref r') → Q' (.ref r') H'') → ∀ E' : XK, spRead C [.str (S fx.tx)] H' Q' E' := fun fx H' Q' fit' k E' =>
      ⟨S fx.tx, rfl, by rw [S_len]; have := fit'.tx; omega, fun r' H'' g' _ k' gg' gt' _ hq' => by
        have e : g' = fx := tx_inj gg' fit'.good (by rw [gt', tl_S])
        subst e
        exact k r' H'' k' hq', fun k e => absurd (show fault fx.tx = some k from e) (by rw [fit'.flt]; simp)⟩
    walk_at "st"
    refine rd g H14 _ fit (fun r' H15 k15 hq' => ?_) _
    have T15 := T14.keep k15
    have U15 := U14.keep k15
    have K15 := K14.keep k15
    have S15 := Keeps.store S14 k15
    refine same_ok (d := .lst (Fd g)) hq'.any K15.any (Nat.le_trans fit.ddep (by decide)) ⟨_, rfl, ?_⟩
    simp only [Bool.true_eq_false, if_false, reduceIte, reduceCtorEq]
    refine same_ok (d := .lst (Fd g)) T15.any K15.any (Nat.le_trans fit.ddep (by decide)) ⟨_, rfl, ?_⟩
    simp only [Bool.true_eq_false, if_false, reduceIte, reduceCtorEq]
    clear T14 U14 K14 S14 hq'
    walk_at "st"
    refine ⟨by rw [PySem.sizeLine_eq]; decide, fun p np => ⟨a, c, p, _, rfl, S15.new np, upd_same, S15.ne1 np, List.cons_ne_nil _ _, Nat.le_of_ble_eq_true rfl, fun v H16 S16 b16 hv => ?_⟩⟩
    obtain ⟨tail, rfl, htl⟩ := short_all (by decide +kernel) hv
    have b16' := But.pushNew np b16
    have T16 := T15.store b16'
    have U16 := U15.store b16'
    have K16 := K15.store b16'
    clear T15 U15 K15 S15 b16 b16' hv np
    have sl : (S g.tx).length ≤ 16000 := by rw [S_len]; exact ftx
    walk_at "st"
    refine ⟨line_of (by omega), S g.tx ++ tail, rfl, by rw [app_len]; omega, fun H17 k17 => ?_⟩
    walk_at "rt"
    refine ⟨kv, g, S g.tx, rfl, (K16.keep k17).any, fit.dep, by omega, by rw [tl_S], fun H18 k18 => ⟨_, rfl, ?_⟩⟩
    simp only [Bool.true_eq_false, if_false, reduceIte, reduceCtorEq]
    have k1618 := k17.trans k18
    have T18 := T16.keep k1618
    have U18 := U16.keep k1618
    have S18 := Keeps.store S16 k1618
    walk_at "st"
    refine ⟨line_of (by omega), ?_⟩
    have hk : ∀ kx : Int, kx = 0 ∨ kx = 1 → CMul 2 kx ∧ (-2 ^ 62 ≤ 1 + 2 * kx) ∧ (1 + 2 * kx) < 2 ^ 62 := fun kx h => by
      rcases h with rfl | rfl
      · exact ⟨by unfold CMul; decide, by decide, by decide⟩
      · exact ⟨by unfold CMul; decide, by decide, by decide⟩
    obtain ⟨h1, h2, h3⟩ := hk (if ((S g.tx).length : Int) < 1000 then 1 else 0) (by split <;> simp)
    refine ⟨h1, h2, h3, ?_⟩
    generalize (1 + 2 * if ((S g.tx).length : Int) < 1000 then (1 : Int) else 0).toNat = many
    clear h1 h2 h3 hk k17 k18 k1618 T16 U16 K16 S16
    refine r_range (fun i σ H' => (∃ x : Option V, σ = [some (.ref sa), some (.ref a), some (.ref r), some (.ref r2), some kv, some (.str (S g.tx)), some (.ref u), some (.str tail), x]) ∧ StoreAt H' a c ∧ But a H18 H') ⟨⟨_, rfl⟩, S18, fun _ _ _ h => h⟩ ?_ ?_
    · rintro i σ H' hi ⟨⟨x, rfl⟩, S', b'⟩ N kk
      walk_at "rt"
      refine ⟨a, c, S g.tx, rfl, S', by omega, fun v H19 S19 b19 ⟨y, e, hy⟩ => ?_⟩
      subst e
      refine ⟨y, rfl, by omega, fun H20 k20 => ⟨_, rfl, ?_⟩⟩
      simp only [Bool.true_eq_false, if_false, reduceIte, reduceCtorEq]
      walk_at "rt"
      exact kk _ _ ⟨⟨_, rfl⟩, Keeps.store S19 k20, (b'.trans b19).trans (Keeps.but k20)⟩
    · rintro σ H19 ⟨⟨x, rfl⟩, S19, b19⟩
      have T19 := T18.store b19
      have U19 := U18.store b19
      clear T18 U18 S18
      walk_at "st"
      refine ⟨.ref r2, w2, rfl, U19.any, fit2.dep, by omega, fun H20 k20 => ?_⟩
      refine ⟨a, c, S w2.tx, rfl, Keeps.store S19 k20, by rw [S_len]; omega, fun v H21 S21 b21 ⟨y, e, hy⟩ => ?_⟩
      subst e
      refine ⟨y, rfl, by omega, fun H22 k22 => ⟨_, rfl, ?_⟩⟩
      simp only [Bool.true_eq_false, if_false, reduceIte, reduceCtorEq]
      have b22 := ((Keeps.but k20).trans b21).trans (Keeps.but k22)
      have T22 := T19.store b22
      have U22 := U19.store b22
      have S22 := Keeps.store S21 k22
      have tx2 := tx_len fit2.good
      walk_at "rt"
      refine ⟨a, c, .ref r2, w2, rfl, S22, U22, Nat.le_trans dd2 (by decide), by omega, fun v' H23 f3 S23 b23 V23 d3 l3 => ?_⟩
      refine ⟨v', f3, rfl, V23.any, by omega, by omega, fun H24 k24 => ⟨_, rfl, ?_⟩⟩
      have T24 := (T22.store b23).keep k24
      simp only [Bool.true_eq_false, if_false, if_true, reduceIte, reduceCtorEq]
      refine ⟨.ref r, g, rfl, T24.any, fit.dep, by omega, fun H25 k25 => ?_⟩
      exact same_ok (d := .str (S g.tx)) rfl rfl (Nat.zero_le _) (q _)
end
end K01
namespace K01
open PySem PySem.Spec PyProof.Rows L2 TL HotExc Tw
/-! ### what the top has written; the end -/
set_option maxHeartbeats 8000000 in
theorem all_mk {l : PySem.W.OpenLaw} {w : World} {K : PySem.W.Frag} {h : Heap} {mg : Str → Option Value} {fa : Addr} (X : K.In h) (G : h.Ns mainGlobals mg) (hfa : mg "law" = some (.ref fa))
    {f_writetree f_readtree f_treepairs f_treedepth f_endofdeed f_store f_mixed f_take f_pick f_chance f_number f_same f_samerows f_copy f_isname f_name f_tree f_treetext f_Ltreepairs f_treedeep f_treefault f_spoilttree f_asked f_readright f_writtenright f_twigs f_counted f_oddtree f_sizedtree f_law : Addr} {od_writetree an_writetree od_readtree an_readtree od_treepairs an_treepairs od_treedepth an_treedepth od_endofdeed an_endofdeed od_store an_store od_mixed an_mixed od_take an_take od_pick an_pick od_chance an_chance od_number an_number od_same an_same od_samerows an_samerows od_copy an_copy od_isname an_isname od_name an_name od_tree an_tree od_treetext an_treetext od_Ltreepairs an_Ltreepairs od_treedeep an_treedeep od_treefault an_treefault od_spoilttree an_spoilttree od_asked an_asked od_readright an_readright od_writtenright an_writtenright od_twigs an_twigs od_counted an_counted od_oddtree an_oddtree od_sizedtree an_sizedtree od_law an_law : Option Addr} {sl_writetree sl_readtree sl_treepairs sl_treedepth sl_endofdeed sl_store sl_mixed sl_take sl_pick sl_chance sl_number sl_same sl_samerows sl_copy sl_isname sl_name sl_tree sl_treetext sl_Ltreepairs sl_treedeep sl_treefault sl_spoilttree sl_asked sl_readright sl_writtenright sl_twigs sl_counted sl_oddtree sl_sizedtree sl_law : Array (Option Value)}
    {oc_writetree dc_writetree pm_writetree cd_writetree ct_writetree oc_readtree dc_readtree pm_readtree cd_readtree ct_readtree oc_treepairs dc_treepairs pm_treepairs cd_treepairs ct_treepairs oc_treedepth dc_treedepth pm_treedepth cd_treedepth ct_treedepth oc_endofdeed dc_endofdeed pm_endofdeed cd_endofdeed ct_endofdeed oc_store dc_store pm_store cd_store ct_store oc_mixed dc_mixed pm_mixed cd_mixed ct_mixed oc_take dc_take pm_take cd_take ct_take oc_pick dc_pick pm_pick cd_pick ct_pick oc_chance dc_chance pm_chance cd_chance ct_chance oc_number dc_number pm_number cd_number ct_number oc_same dc_same pm_same cd_same ct_same oc_samerows dc_samerows pm_samerows cd_samerows ct_samerows oc_copy dc_copy pm_copy cd_copy ct_copy oc_isname dc_isname pm_isname cd_isname ct_isname oc_name dc_name pm_name cd_name ct_name oc_tree dc_tree pm_tree cd_tree ct_tree oc_treetext dc_treetext pm_treetext cd_treetext ct_treetext oc_Ltreepairs dc_Ltreepairs pm_Ltreepairs cd_Ltreepairs ct_Ltreepairs oc_treedeep dc_treedeep pm_treedeep cd_treedeep ct_treedeep oc_treefault dc_treefault pm_treefault cd_treefault ct_treefault oc_spoilttree dc_spoilttree pm_spoilttree cd_spoilttree ct_spoilttree oc_asked dc_asked pm_asked cd_asked ct_asked oc_readright dc_readright pm_readright cd_readright ct_readright oc_writtenright dc_writtenright pm_writtenright cd_writtenright ct_writtenright oc_twigs dc_twigs pm_twigs cd_twigs ct_twigs oc_counted dc_counted pm_counted cd_counted ct_counted oc_oddtree dc_oddtree pm_oddtree cd_oddtree ct_oddtree oc_sizedtree dc_sizedtree pm_sizedtree cd_sizedtree ct_sizedtree oc_law dc_law pm_law cd_law ct_law : Value} {kV_writetree kV_readtree kV_treepairs kV_treedepth kV_endofdeed kV_store kV_mixed kV_take kV_pick kV_chance kV_number kV_same kV_samerows kV_copy kV_isname kV_name kV_tree kV_treetext kV_Ltreepairs kV_treedeep kV_treefault kV_spoilttree kV_asked kV_readright kV_writtenright kV_twigs kV_counted kV_oddtree kV_sizedtree kV_law : Value}
    {c_BadTree c_TworoomsError : Addr}
    {t_PASS t_LETTERS t_DIGITS t_LONGEST_NAME t_MOST_OPEN t_MOST_PAIRS : Tok}
    {nm_BadTree q_BadTree : Str} {N_BadTree fI_BadTree : Addr} {bs_BadTree bm_BadTree sub_BadTree : List Value} {sn_BadTree : List Str} {ab_BadTree : Bool} {col_BadTree : Option Bool} {dd_BadTree odI_BadTree anI_BadTree : Option Addr} {m0_BadTree m1_BadTree m2_BadTree m3_BadTree m5_BadTree : Option Value} {ocI_BadTree kVI_BadTree dcI_BadTree pmI_BadTree cdI_BadTree ctI_BadTree : Value} {slI_BadTree : Array (Option Value)}
    (a_writetree : PySem.W.nsIn K mainGlobals "write_tree" = some (some (.ref f_writetree))) (l_writetree : K.lookup f_writetree = some ⟨oc_writetree, od_writetree, .func (PySem.W.fnOf "write_tree" "write_tree" (defArgs s_writetree) (defBody s_writetree) (defScope s_writetree) .none kV_writetree dc_writetree pm_writetree an_writetree cd_writetree ct_writetree), sl_writetree⟩) (c_f_writetree : PySem.W.codeIn K cd_writetree "write_tree" = true) (k_writetree : PySem.W.keepIn K (.ref f_writetree) = true)
    (a_readtree : PySem.W.nsIn K mainGlobals "read_tree" = some (some (.ref f_readtree))) (l_readtree : K.lookup f_readtree = some ⟨oc_readtree, od_readtree, .func (PySem.W.fnOf "read_tree" "read_tree" (defArgs s_readtree) (defBody s_readtree) (defScope s_readtree) .none kV_readtree dc_readtree pm_readtree an_readtree cd_readtree ct_readtree), sl_readtree⟩) (c_f_readtree : PySem.W.codeIn K cd_readtree "read_tree" = true) (k_readtree : PySem.W.keepIn K (.ref f_readtree) = true)
    (a_treepairs : PySem.W.nsIn K mainGlobals "tree_pairs" = some (some (.ref f_treepairs))) (l_treepairs : K.lookup f_treepairs = some ⟨oc_treepairs, od_treepairs, .func (PySem.W.fnOf "tree_pairs" "tree_pairs" (defArgs s_treepairs) (defBody s_treepairs) (defScope s_treepairs) .none kV_treepairs dc_treepairs pm_treepairs an_treepairs cd_treepairs ct_treepairs), sl_treepairs⟩) (c_f_treepairs : PySem.W.codeIn K cd_treepairs "tree_pairs" = true) (k_treepairs : PySem.W.keepIn K (.ref f_treepairs) = true)
    (a_treedepth : PySem.W.nsIn K mainGlobals "tree_depth" = some (some (.ref f_treedepth))) (l_treedepth : K.lookup f_treedepth = some ⟨oc_treedepth, od_treedepth, .func (PySem.W.fnOf "tree_depth" "tree_depth" (defArgs s_treedepth) (defBody s_treedepth) (defScope s_treedepth) .none kV_treedepth dc_treedepth pm_treedepth an_treedepth cd_treedepth ct_treedepth), sl_treedepth⟩) (c_f_treedepth : PySem.W.codeIn K cd_treedepth "tree_depth" = true) (k_treedepth : PySem.W.keepIn K (.ref f_treedepth) = true)
    (a_endofdeed : PySem.W.nsIn K mainGlobals "end_of_deed" = some (some (.ref f_endofdeed))) (l_endofdeed : K.lookup f_endofdeed = some ⟨oc_endofdeed, od_endofdeed, .func (PySem.W.fnOf "end_of_deed" "end_of_deed" (defArgs s_endofdeed) (defBody s_endofdeed) (defScope s_endofdeed) .none kV_endofdeed dc_endofdeed pm_endofdeed an_endofdeed cd_endofdeed ct_endofdeed), sl_endofdeed⟩) (c_f_endofdeed : PySem.W.codeIn K cd_endofdeed "end_of_deed" = true) (k_endofdeed : PySem.W.keepIn K (.ref f_endofdeed) = true)
    (a_store : PySem.W.nsIn K mainGlobals "_law_store" = some (some (.ref f_store))) (l_store : K.lookup f_store = some ⟨oc_store, od_store, .func (PySem.W.fnOf "_law_store" "_law_store" (defArgs s_store) (defBody s_store) (defScope s_store) .none kV_store dc_store pm_store an_store cd_store ct_store), sl_store⟩) (c_f_store : PySem.W.codeIn K cd_store "_law_store" = true) (k_store : PySem.W.keepIn K (.ref f_store) = true)
    (a_mixed : PySem.W.nsIn K mainGlobals "_law_mixed" = some (some (.ref f_mixed))) (l_mixed : K.lookup f_mixed = some ⟨oc_mixed, od_mixed, .func (PySem.W.fnOf "_law_mixed" "_law_mixed" (defArgs s_mixed) (defBody s_mixed) (defScope s_mixed) .none kV_mixed dc_mixed pm_mixed an_mixed cd_mixed ct_mixed), sl_mixed⟩) (c_f_mixed : PySem.W.codeIn K cd_mixed "_law_mixed" = true) (k_mixed : PySem.W.keepIn K (.ref f_mixed) = true)
    (a_take : PySem.W.nsIn K mainGlobals "_law_take" = some (some (.ref f_take))) (l_take : K.lookup f_take = some ⟨oc_take, od_take, .func (PySem.W.fnOf "_law_take" "_law_take" (defArgs s_take) (defBody s_take) (defScope s_take) .none kV_take dc_take pm_take an_take cd_take ct_take), sl_take⟩) (c_f_take : PySem.W.codeIn K cd_take "_law_take" = true) (k_take : PySem.W.keepIn K (.ref f_take) = true)
    (a_pick : PySem.W.nsIn K mainGlobals "_law_pick" = some (some (.ref f_pick))) (l_pick : K.lookup f_pick = some ⟨oc_pick, od_pick, .func (PySem.W.fnOf "_law_pick" "_law_pick" (defArgs s_pick) (defBody s_pick) (defScope s_pick) .none kV_pick dc_pick pm_pick an_pick cd_pick ct_pick), sl_pick⟩) (c_f_pick : PySem.W.codeIn K cd_pick "_law_pick" = true) (k_pick : PySem.W.keepIn K (.ref f_pick) = true)
    (a_chance : PySem.W.nsIn K mainGlobals "_law_chance" = some (some (.ref f_chance))) (l_chance : K.lookup f_chance = some ⟨oc_chance, od_chance, .func (PySem.W.fnOf "_law_chance" "_law_chance" (defArgs s_chance) (defBody s_chance) (defScope s_chance) .none kV_chance dc_chance pm_chance an_chance cd_chance ct_chance), sl_chance⟩) (c_f_chance : PySem.W.codeIn K cd_chance "_law_chance" = true) (k_chance : PySem.W.keepIn K (.ref f_chance) = true)
    (a_number : PySem.W.nsIn K mainGlobals "_law_number" = some (some (.ref f_number))) (l_number : K.lookup f_number = some ⟨oc_number, od_number, .func (PySem.W.fnOf "_law_number" "_law_number" (defArgs s_number) (defBody s_number) (defScope s_number) .none kV_number dc_number pm_number an_number cd_number ct_number), sl_number⟩) (c_f_number : PySem.W.codeIn K cd_number "_law_number" = true) (k_number : PySem.W.keepIn K (.ref f_number) = true)
    (a_same : PySem.W.nsIn K mainGlobals "_law_same" = some (some (.ref f_same))) (l_same : K.lookup f_same = some ⟨oc_same, od_same, .func (PySem.W.fnOf "_law_same" "_law_same" (defArgs s_same) (defBody s_same) (defScope s_same) .none kV_same dc_same pm_same an_same cd_same ct_same), sl_same⟩) (c_f_same : PySem.W.codeIn K cd_same "_law_same" = true) (k_same : PySem.W.keepIn K (.ref f_same) = true)
    (a_samerows : PySem.W.nsIn K mainGlobals "_law_same_rows" = some (some (.ref f_samerows))) (l_samerows : K.lookup f_samerows = some ⟨oc_samerows, od_samerows, .func (PySem.W.fnOf "_law_same_rows" "_law_same_rows" (defArgs s_samerows) (defBody s_samerows) (defScope s_samerows) .none kV_samerows dc_samerows pm_samerows an_samerows cd_samerows ct_samerows), sl_samerows⟩) (c_f_samerows : PySem.W.codeIn K cd_samerows "_law_same_rows" = true) (k_samerows : PySem.W.keepIn K (.ref f_samerows) = true)
    (a_copy : PySem.W.nsIn K mainGlobals "_law_copy" = some (some (.ref f_copy))) (l_copy : K.lookup f_copy = some ⟨oc_copy, od_copy, .func (PySem.W.fnOf "_law_copy" "_law_copy" (defArgs s_copy) (defBody s_copy) (defScope s_copy) .none kV_copy dc_copy pm_copy an_copy cd_copy ct_copy), sl_copy⟩) (c_f_copy : PySem.W.codeIn K cd_copy "_law_copy" = true) (k_copy : PySem.W.keepIn K (.ref f_copy) = true)
    (a_isname : PySem.W.nsIn K mainGlobals "_law_is_name" = some (some (.ref f_isname))) (l_isname : K.lookup f_isname = some ⟨oc_isname, od_isname, .func (PySem.W.fnOf "_law_is_name" "_law_is_name" (defArgs s_isname) (defBody s_isname) (defScope s_isname) .none kV_isname dc_isname pm_isname an_isname cd_isname ct_isname), sl_isname⟩) (c_f_isname : PySem.W.codeIn K cd_isname "_law_is_name" = true) (k_isname : PySem.W.keepIn K (.ref f_isname) = true)
    (a_name : PySem.W.nsIn K mainGlobals "_law_name" = some (some (.ref f_name))) (l_name : K.lookup f_name = some ⟨oc_name, od_name, .func (PySem.W.fnOf "_law_name" "_law_name" (defArgs s_name) (defBody s_name) (defScope s_name) .none kV_name dc_name pm_name an_name cd_name ct_name), sl_name⟩) (c_f_name : PySem.W.codeIn K cd_name "_law_name" = true) (k_name : PySem.W.keepIn K (.ref f_name) = true)
    (a_tree : PySem.W.nsIn K mainGlobals "_law_tree" = some (some (.ref f_tree))) (l_tree : K.lookup f_tree = some ⟨oc_tree, od_tree, .func (PySem.W.fnOf "_law_tree" "_law_tree" (defArgs s_tree) (defBody s_tree) (defScope s_tree) .none kV_tree dc_tree pm_tree an_tree cd_tree ct_tree), sl_tree⟩) (c_f_tree : PySem.W.codeIn K cd_tree "_law_tree" = true) (k_tree : PySem.W.keepIn K (.ref f_tree) = true)
    (a_treetext : PySem.W.nsIn K mainGlobals "_law_tree_text" = some (some (.ref f_treetext))) (l_treetext : K.lookup f_treetext = some ⟨oc_treetext, od_treetext, .func (PySem.W.fnOf "_law_tree_text" "_law_tree_text" (defArgs s_treetext) (defBody s_treetext) (defScope s_treetext) .none kV_treetext dc_treetext pm_treetext an_treetext cd_treetext ct_treetext), sl_treetext⟩) (c_f_treetext : PySem.W.codeIn K cd_treetext "_law_tree_text" = true) (k_treetext : PySem.W.keepIn K (.ref f_treetext) = true)
    (a_Ltreepairs : PySem.W.nsIn K mainGlobals "_law_tree_pairs" = some (some (.ref f_Ltreepairs))) (l_Ltreepairs : K.lookup f_Ltreepairs = some ⟨oc_Ltreepairs, od_Ltreepairs, .func (PySem.W.fnOf "_law_tree_pairs" "_law_tree_pairs" (defArgs s_Ltreepairs) (defBody s_Ltreepairs) (defScope s_Ltreepairs) .none kV_Ltreepairs dc_Ltreepairs pm_Ltreepairs an_Ltreepairs cd_Ltreepairs ct_Ltreepairs), sl_Ltreepairs⟩) (c_f_Ltreepairs : PySem.W.codeIn K cd_Ltreepairs "_law_tree_pairs" = true) (k_Ltreepairs : PySem.W.keepIn K (.ref f_Ltreepairs) = true)
    (a_treedeep : PySem.W.nsIn K mainGlobals "_law_tree_deep" = some (some (.ref f_treedeep))) (l_treedeep : K.lookup f_treedeep = some ⟨oc_treedeep, od_treedeep, .func (PySem.W.fnOf "_law_tree_deep" "_law_tree_deep" (defArgs s_treedeep) (defBody s_treedeep) (defScope s_treedeep) .none kV_treedeep dc_treedeep pm_treedeep an_treedeep cd_treedeep ct_treedeep), sl_treedeep⟩) (c_f_treedeep : PySem.W.codeIn K cd_treedeep "_law_tree_deep" = true) (k_treedeep : PySem.W.keepIn K (.ref f_treedeep) = true)
    (a_treefault : PySem.W.nsIn K mainGlobals "_law_tree_fault" = some (some (.ref f_treefault))) (l_treefault : K.lookup f_treefault = some ⟨oc_treefault, od_treefault, .func (PySem.W.fnOf "_law_tree_fault" "_law_tree_fault" (defArgs s_treefault) (defBody s_treefault) (defScope s_treefault) .none kV_treefault dc_treefault pm_treefault an_treefault cd_treefault ct_treefault), sl_treefault⟩) (c_f_treefault : PySem.W.codeIn K cd_treefault "_law_tree_fault" = true) (k_treefault : PySem.W.keepIn K (.ref f_treefault) = true)
    (a_spoilttree : PySem.W.nsIn K mainGlobals "_law_spoilt_tree" = some (some (.ref f_spoilttree))) (l_spoilttree : K.lookup f_spoilttree = some ⟨oc_spoilttree, od_spoilttree, .func (PySem.W.fnOf "_law_spoilt_tree" "_law_spoilt_tree" (defArgs s_spoilttree) (defBody s_spoilttree) (defScope s_spoilttree) .none kV_spoilttree dc_spoilttree pm_spoilttree an_spoilttree cd_spoilttree ct_spoilttree), sl_spoilttree⟩) (c_f_spoilttree : PySem.W.codeIn K cd_spoilttree "_law_spoilt_tree" = true) (k_spoilttree : PySem.W.keepIn K (.ref f_spoilttree) = true)
    (a_asked : PySem.W.nsIn K mainGlobals "_law_asked" = some (some (.ref f_asked))) (l_asked : K.lookup f_asked = some ⟨oc_asked, od_asked, .func (PySem.W.fnOf "_law_asked" "_law_asked" (defArgs s_asked) (defBody s_asked) (defScope s_asked) .none kV_asked dc_asked pm_asked an_asked cd_asked ct_asked), sl_asked⟩) (c_f_asked : PySem.W.codeIn K cd_asked "_law_asked" = true) (k_asked : PySem.W.keepIn K (.ref f_asked) = true)
    (a_readright : PySem.W.nsIn K mainGlobals "_law_read_right" = some (some (.ref f_readright))) (l_readright : K.lookup f_readright = some ⟨oc_readright, od_readright, .func (PySem.W.fnOf "_law_read_right" "_law_read_right" (defArgs s_readright) (defBody s_readright) (defScope s_readright) .none kV_readright dc_readright pm_readright an_readright cd_readright ct_readright), sl_readright⟩) (c_f_readright : PySem.W.codeIn K cd_readright "_law_read_right" = true) (k_readright : PySem.W.keepIn K (.ref f_readright) = true)
    (a_writtenright : PySem.W.nsIn K mainGlobals "_law_written_right" = some (some (.ref f_writtenright))) (l_writtenright : K.lookup f_writtenright = some ⟨oc_writtenright, od_writtenright, .func (PySem.W.fnOf "_law_written_right" "_law_written_right" (defArgs s_writtenright) (defBody s_writtenright) (defScope s_writtenright) .none kV_writtenright dc_writtenright pm_writtenright an_writtenright cd_writtenright ct_writtenright), sl_writtenright⟩) (c_f_writtenright : PySem.W.codeIn K cd_writtenright "_law_written_right" = true) (k_writtenright : PySem.W.keepIn K (.ref f_writtenright) = true)
    (a_twigs : PySem.W.nsIn K mainGlobals "_law_twigs" = some (some (.ref f_twigs))) (l_twigs : K.lookup f_twigs = some ⟨oc_twigs, od_twigs, .func (PySem.W.fnOf "_law_twigs" "_law_twigs" (defArgs s_twigs) (defBody s_twigs) (defScope s_twigs) .none kV_twigs dc_twigs pm_twigs an_twigs cd_twigs ct_twigs), sl_twigs⟩) (c_f_twigs : PySem.W.codeIn K cd_twigs "_law_twigs" = true) (k_twigs : PySem.W.keepIn K (.ref f_twigs) = true)
    (a_counted : PySem.W.nsIn K mainGlobals "_law_counted" = some (some (.ref f_counted))) (l_counted : K.lookup f_counted = some ⟨oc_counted, od_counted, .func (PySem.W.fnOf "_law_counted" "_law_counted" (defArgs s_counted) (defBody s_counted) (defScope s_counted) .none kV_counted dc_counted pm_counted an_counted cd_counted ct_counted), sl_counted⟩) (c_f_counted : PySem.W.codeIn K cd_counted "_law_counted" = true) (k_counted : PySem.W.keepIn K (.ref f_counted) = true)
    (a_oddtree : PySem.W.nsIn K mainGlobals "_law_odd_tree" = some (some (.ref f_oddtree))) (l_oddtree : K.lookup f_oddtree = some ⟨oc_oddtree, od_oddtree, .func (PySem.W.fnOf "_law_odd_tree" "_law_odd_tree" (defArgs s_oddtree) (defBody s_oddtree) (defScope s_oddtree) .none kV_oddtree dc_oddtree pm_oddtree an_oddtree cd_oddtree ct_oddtree), sl_oddtree⟩) (c_f_oddtree : PySem.W.codeIn K cd_oddtree "_law_odd_tree" = true) (k_oddtree : PySem.W.keepIn K (.ref f_oddtree) = true)
    (a_sizedtree : PySem.W.nsIn K mainGlobals "_law_sized_tree" = some (some (.ref f_sizedtree))) (l_sizedtree : K.lookup f_sizedtree = some ⟨oc_sizedtree, od_sizedtree, .func (PySem.W.fnOf "_law_sized_tree" "_law_sized_tree" (defArgs s_sizedtree) (defBody s_sizedtree) (defScope s_sizedtree) .none kV_sizedtree dc_sizedtree pm_sizedtree an_sizedtree cd_sizedtree ct_sizedtree), sl_sizedtree⟩) (c_f_sizedtree : PySem.W.codeIn K cd_sizedtree "_law_sized_tree" = true) (k_sizedtree : PySem.W.keepIn K (.ref f_sizedtree) = true)
    (a_law : PySem.W.nsIn K mainGlobals "law" = some (some (.ref f_law))) (l_law : K.lookup f_law = some ⟨oc_law, od_law, .func (PySem.W.fnOf "law" "law" (defArgs s_law) (defBody s_law) (defScope s_law) .none kV_law dc_law pm_law an_law cd_law ct_law), sl_law⟩) (c_f_law : PySem.W.codeIn K cd_law "law" = true) (k_law : PySem.W.keepIn K (.ref f_law) = true)
    (e_BadTree : PySem.W.nsIn K mainGlobals "BadTree" = some (some (.ref c_BadTree)))
    (e_TworoomsError : PySem.W.nsIn K mainGlobals "TworoomsError" = some (some (.ref c_TworoomsError)))
    (kit_BadTree_TworoomsError : PySem.W.kitOne K (.ref c_BadTree) (.ref c_TworoomsError) = some true)
    (xL_BadTree : K.lookup c_BadTree = some (excClassObj nm_BadTree q_BadTree c_BadTree N_BadTree bs_BadTree bm_BadTree true sn_BadTree sub_BadTree ab_BadTree col_BadTree dd_BadTree m0_BadTree m1_BadTree m2_BadTree m3_BadTree m5_BadTree "ValueError.__new__")) (rv_BadTree : PySem.HandSPX.refsVE bm_BadTree = true)
    (sa_BadTree : PySem.W.findIn K (.ref c_BadTree) "__setattr__" = some (some (.builtin "object.__setattr__")))
    (ex_BadTree : PySem.W.subIn K (.ref c_BadTree) (.type "BaseException") = some true)
    (ty_BadTree : PySem.W.typeIn K (.ref c_BadTree) = some (.type "type"))
    (kC_BadTree : PySem.W.keepIn K (.ref c_BadTree) = true)
    (ini_BadTree : PySem.W.findIn K (.ref c_BadTree) "__init__" = some (some (.ref fI_BadTree)))
    (tf_BadTree : PySem.W.typeIn K (.ref fI_BadTree) = some (.type "function"))
    (ga_BadTree : PySem.W.findIn K (.ref c_BadTree) "__getattribute__" = some (some (.builtin "BaseException.__getattribute__")))
    (gg_BadTree : PySem.W.findIn K (.ref c_BadTree) "__getattr__" = some none)
    (hd_BadTree : PySem.W.hasDictIn K c_BadTree = true)
    (ha_BadTree : PySem.W.findIn K (.ref c_BadTree) "__class__" = some (some (.builtin "object.__class__")))
    (hn_BadTree : PySem.W.specialIn K (.builtin "object.__class__") "__get__" = some (some (.builtin "getset_descriptor.__get__")))
    (ht_BadTree : PySem.W.takesIn K (.builtin "object.__class__") = some true)
    (hm_BadTree : PySem.W.mroIn K c_BadTree (.type "object") = some true)
    (me_BadTree : PySem.W.exmOne K (.ref c_BadTree) (.ref c_BadTree) = some true)
    (lI_BadTree : K.lookup fI_BadTree = some ⟨ocI_BadTree, odI_BadTree, .func (PySem.W.fnOf "__init__" "BadTree.__init__" (defArgs s_iBadTree) (defBody s_iBadTree) (defScope s_iBadTree) .none kVI_BadTree dcI_BadTree pmI_BadTree anI_BadTree cdI_BadTree ctI_BadTree), slI_BadTree⟩)
    (cI_BadTree : PySem.W.codeIn K cdI_BadTree "BadTree.__init__" = true)
    (kI_BadTree : PySem.W.keepIn K (.ref fI_BadTree) = true)
    (no_BadTree_at : PySem.W.findIn K (.ref c_BadTree) "at" = some none)
    (g_PASS : PySem.W.nsIn K mainGlobals "PASS" = some (some (.str (Str.ofString "-") t_PASS)))
    (g_LETTERS : PySem.W.nsIn K mainGlobals "LETTERS" = some (some (.str (Str.ofString "abcdefghijklmnopqrstuvwxyz") t_LETTERS)))
    (g_DIGITS : PySem.W.nsIn K mainGlobals "DIGITS" = some (some (.str (Str.ofString "0123456789") t_DIGITS)))
    (g_LONGEST_NAME : PySem.W.nsIn K mainGlobals "LONGEST_NAME" = some (some (.int 6 t_LONGEST_NAME)))
    (g_MOST_OPEN : PySem.W.nsIn K mainGlobals "MOST_OPEN" = some (some (.int 13 t_MOST_OPEN)))
    (g_MOST_PAIRS : PySem.W.nsIn K mainGlobals "MOST_PAIRS" = some (some (.int 2000 t_MOST_PAIRS)))
    (z_len : PySem.W.nsIn K mainGlobals "len" = some none) (z_range : PySem.W.nsIn K mainGlobals "range" = some none) (z_abs : PySem.W.nsIn K mainGlobals "abs" = some none) (z_ord : PySem.W.nsIn K mainGlobals "ord" = some none) (z_min : PySem.W.nsIn K mainGlobals "min" = some none) (z_max : PySem.W.nsIn K mainGlobals "max" = some none) (z_all : PySem.W.nsIn K mainGlobals "all" = some none) (z_isinstance : PySem.W.nsIn K mainGlobals "isinstance" = some none) (z_int_ : PySem.W.nsIn K mainGlobals "int" = some none) (z_str_ : PySem.W.nsIn K mainGlobals "str" = some none) (z_bool_ : PySem.W.nsIn K mainGlobals "bool" = some none) (z_list_ : PySem.W.nsIn K mainGlobals "list" = some none) (z_tuple_ : PySem.W.nsIn K mainGlobals "tuple" = some none) (z_dict_ : PySem.W.nsIn K mainGlobals "dict" = some none) (z_sum : PySem.W.nsIn K mainGlobals "sum" = some none) :
    ∃ fd : FuncData, (∀ (s : Shared) (v : Value), BindsTo s fd ⟨[v], []⟩ [("script", v)]) ∧ ∀ base : Heap, K.In base → base.Ns mainGlobals mg → FnOk l.prog w K mg base CX0 66 fa fd ["script"] (spLaw K) := by
  have e := hfa.symm.trans (PySem.W.mg_of X G a_law)
  cases e
  have B : Bi mg := ⟨PySem.W.mg_none_of X G z_len, PySem.W.mg_none_of X G z_range, PySem.W.mg_none_of X G z_abs, PySem.W.mg_none_of X G z_ord, PySem.W.mg_none_of X G z_min, PySem.W.mg_none_of X G z_max, PySem.W.mg_none_of X G z_all, PySem.W.mg_none_of X G z_isinstance, PySem.W.mg_none_of X G z_int_, PySem.W.mg_none_of X G z_str_, PySem.W.mg_none_of X G z_bool_, PySem.W.mg_none_of X G z_list_, PySem.W.mg_none_of X G z_tuple_, PySem.W.mg_none_of X G z_dict_⟩
  have F_writetree := fun_mk (st := s_writetree) l_writetree c_f_writetree k_writetree
  have D_writetree : Dn K mg "write_tree" s_writetree ["tree"] f_writetree _ := ⟨F_writetree, PySem.W.mg_of X G a_writetree, F_writetree.binds (ps := ["tree"]) fun _ _ _ _ _ _ us hl => match us, hl with | [_], _ => rfl⟩
  have F_readtree := fun_mk (st := s_readtree) l_readtree c_f_readtree k_readtree
  have D_readtree : Dn K mg "read_tree" s_readtree ["text"] f_readtree _ := ⟨F_readtree, PySem.W.mg_of X G a_readtree, F_readtree.binds (ps := ["text"]) fun _ _ _ _ _ _ us hl => match us, hl with | [_], _ => rfl⟩
  have F_treepairs := fun_mk (st := s_treepairs) l_treepairs c_f_treepairs k_treepairs
  have D_treepairs : Dn K mg "tree_pairs" s_treepairs ["tree"] f_treepairs _ := ⟨F_treepairs, PySem.W.mg_of X G a_treepairs, F_treepairs.binds (ps := ["tree"]) fun _ _ _ _ _ _ us hl => match us, hl with | [_], _ => rfl⟩
  have F_treedepth := fun_mk (st := s_treedepth) l_treedepth c_f_treedepth k_treedepth
  have D_treedepth : Dn K mg "tree_depth" s_treedepth ["tree"] f_treedepth _ := ⟨F_treedepth, PySem.W.mg_of X G a_treedepth, F_treedepth.binds (ps := ["tree"]) fun _ _ _ _ _ _ us hl => match us, hl with | [_], _ => rfl⟩
  have F_endofdeed := fun_mk (st := s_endofdeed) l_endofdeed c_f_endofdeed k_endofdeed
  have D_endofdeed : Dn K mg "end_of_deed" s_endofdeed ["text", "at"] f_endofdeed _ := ⟨F_endofdeed, PySem.W.mg_of X G a_endofdeed, F_endofdeed.binds (ps := ["text", "at"]) fun _ _ _ _ _ _ us hl => match us, hl with | [_, _], _ => rfl⟩
  have F_store := fun_mk (st := s_store) l_store c_f_store k_store
  have D_store : Dn K mg "_law_store" s_store ["script"] f_store _ := ⟨F_store, PySem.W.mg_of X G a_store, F_store.binds (ps := ["script"]) fun _ _ _ _ _ _ us hl => match us, hl with | [_], _ => rfl⟩
  have F_mixed := fun_mk (st := s_mixed) l_mixed c_f_mixed k_mixed
  have D_mixed : Dn K mg "_law_mixed" s_mixed ["number", "turn", "many"] f_mixed _ := ⟨F_mixed, PySem.W.mg_of X G a_mixed, F_mixed.binds (ps := ["number", "turn", "many"]) fun _ _ _ _ _ _ us hl => match us, hl with | [_, _, _], _ => rfl⟩
  have F_take := fun_mk (st := s_take) l_take c_f_take k_take
  have D_take : Dn K mg "_law_take" s_take ["store", "many"] f_take _ := ⟨F_take, PySem.W.mg_of X G a_take, F_take.binds (ps := ["store", "many"]) fun _ _ _ _ _ _ us hl => match us, hl with | [_, _], _ => rfl⟩
  have F_pick := fun_mk (st := s_pick) l_pick c_f_pick k_pick
  have D_pick : Dn K mg "_law_pick" s_pick ["store", "row"] f_pick _ := ⟨F_pick, PySem.W.mg_of X G a_pick, F_pick.binds (ps := ["store", "row"]) fun _ _ _ _ _ _ us hl => match us, hl with | [_, _], _ => rfl⟩
  have F_chance := fun_mk (st := s_chance) l_chance c_f_chance k_chance
  have D_chance : Dn K mg "_law_chance" s_chance ["store", "many"] f_chance _ := ⟨F_chance, PySem.W.mg_of X G a_chance, F_chance.binds (ps := ["store", "many"]) fun _ _ _ _ _ _ us hl => match us, hl with | [_, _], _ => rfl⟩
  have F_number := fun_mk (st := s_number) l_number c_f_number k_number
  have D_number : Dn K mg "_law_number" s_number ["store", "low", "high"] f_number _ := ⟨F_number, PySem.W.mg_of X G a_number, F_number.binds (ps := ["store", "low", "high"]) fun _ _ _ _ _ _ us hl => match us, hl with | [_, _, _], _ => rfl⟩
  have F_same := fun_mk (st := s_same) l_same c_f_same k_same
  have D_same : Dn K mg "_law_same" s_same ["one", "two"] f_same _ := ⟨F_same, PySem.W.mg_of X G a_same, F_same.binds (ps := ["one", "two"]) fun _ _ _ _ _ _ us hl => match us, hl with | [_, _], _ => rfl⟩
  have F_samerows := fun_mk (st := s_samerows) l_samerows c_f_samerows k_samerows
  have D_samerows : Dn K mg "_law_same_rows" s_samerows ["one", "two"] f_samerows _ := ⟨F_samerows, PySem.W.mg_of X G a_samerows, F_samerows.binds (ps := ["one", "two"]) fun _ _ _ _ _ _ us hl => match us, hl with | [_, _], _ => rfl⟩
  have F_copy := fun_mk (st := s_copy) l_copy c_f_copy k_copy
  have D_copy : Dn K mg "_law_copy" s_copy ["thing"] f_copy _ := ⟨F_copy, PySem.W.mg_of X G a_copy, F_copy.binds (ps := ["thing"]) fun _ _ _ _ _ _ us hl => match us, hl with | [_], _ => rfl⟩
  have F_isname := fun_mk (st := s_isname) l_isname c_f_isname k_isname
  have D_isname : Dn K mg "_law_is_name" s_isname ["text"] f_isname _ := ⟨F_isname, PySem.W.mg_of X G a_isname, F_isname.binds (ps := ["text"]) fun _ _ _ _ _ _ us hl => match us, hl with | [_], _ => rfl⟩
  have F_name := fun_mk (st := s_name) l_name c_f_name k_name
  have D_name : Dn K mg "_law_name" s_name ["store"] f_name _ := ⟨F_name, PySem.W.mg_of X G a_name, F_name.binds (ps := ["store"]) fun _ _ _ _ _ _ us hl => match us, hl with | [_], _ => rfl⟩
  have F_tree := fun_mk (st := s_tree) l_tree c_f_tree k_tree
  have D_tree : Dn K mg "_law_tree" s_tree ["store", "many", "deep"] f_tree _ := ⟨F_tree, PySem.W.mg_of X G a_tree, F_tree.binds (ps := ["store", "many", "deep"]) fun _ _ _ _ _ _ us hl => match us, hl with | [_, _, _], _ => rfl⟩
  have F_treetext := fun_mk (st := s_treetext) l_treetext c_f_treetext k_treetext
  have D_treetext : Dn K mg "_law_tree_text" s_treetext ["tree"] f_treetext _ := ⟨F_treetext, PySem.W.mg_of X G a_treetext, F_treetext.binds (ps := ["tree"]) fun _ _ _ _ _ _ us hl => match us, hl with | [_], _ => rfl⟩
  have F_Ltreepairs := fun_mk (st := s_Ltreepairs) l_Ltreepairs c_f_Ltreepairs k_Ltreepairs
  have D_Ltreepairs : Dn K mg "_law_tree_pairs" s_Ltreepairs ["tree"] f_Ltreepairs _ := ⟨F_Ltreepairs, PySem.W.mg_of X G a_Ltreepairs, F_Ltreepairs.binds (ps := ["tree"]) fun _ _ _ _ _ _ us hl => match us, hl with | [_], _ => rfl⟩
  have F_treedeep := fun_mk (st := s_treedeep) l_treedeep c_f_treedeep k_treedeep
  have D_treedeep : Dn K mg "_law_tree_deep" s_treedeep ["tree"] f_treedeep _ := ⟨F_treedeep, PySem.W.mg_of X G a_treedeep, F_treedeep.binds (ps := ["tree"]) fun _ _ _ _ _ _ us hl => match us, hl with | [_], _ => rfl⟩
  have F_treefault := fun_mk (st := s_treefault) l_treefault c_f_treefault k_treefault
  have D_treefault : Dn K mg "_law_tree_fault" s_treefault ["text"] f_treefault _ := ⟨F_treefault, PySem.W.mg_of X G a_treefault, F_treefault.binds (ps := ["text"]) fun _ _ _ _ _ _ us hl => match us, hl with | [_], _ => rfl⟩
  have F_spoilttree := fun_mk (st := s_spoilttree) l_spoilttree c_f_spoilttree k_spoilttree
  have D_spoilttree : Dn K mg "_law_spoilt_tree" s_spoilttree ["store", "text"] f_spoilttree _ := ⟨F_spoilttree, PySem.W.mg_of X G a_spoilttree, F_spoilttree.binds (ps := ["store", "text"]) fun _ _ _ _ _ _ us hl => match us, hl with | [_, _], _ => rfl⟩
  have F_asked := fun_mk (st := s_asked) l_asked c_f_asked k_asked
  have D_asked : Dn K mg "_law_asked" s_asked ["text"] f_asked _ := ⟨F_asked, PySem.W.mg_of X G a_asked, F_asked.binds (ps := ["text"]) fun _ _ _ _ _ _ us hl => match us, hl with | [_], _ => rfl⟩
  have F_readright := fun_mk (st := s_readright) l_readright c_f_readright k_readright
  have D_readright : Dn K mg "_law_read_right" s_readright ["text"] f_readright _ := ⟨F_readright, PySem.W.mg_of X G a_readright, F_readright.binds (ps := ["text"]) fun _ _ _ _ _ _ us hl => match us, hl with | [_], _ => rfl⟩
  have F_writtenright := fun_mk (st := s_writtenright) l_writtenright c_f_writtenright k_writtenright
  have D_writtenright : Dn K mg "_law_written_right" s_writtenright ["tree", "text"] f_writtenright _ := ⟨F_writtenright, PySem.W.mg_of X G a_writtenright, F_writtenright.binds (ps := ["tree", "text"]) fun _ _ _ _ _ _ us hl => match us, hl with | [_, _], _ => rfl⟩
  have F_twigs := fun_mk (st := s_twigs) l_twigs c_f_twigs k_twigs
  have D_twigs : Dn K mg "_law_twigs" s_twigs ["tree"] f_twigs _ := ⟨F_twigs, PySem.W.mg_of X G a_twigs, F_twigs.binds (ps := ["tree"]) fun _ _ _ _ _ _ us hl => match us, hl with | [_], _ => rfl⟩
  have F_counted := fun_mk (st := s_counted) l_counted c_f_counted k_counted
  have D_counted : Dn K mg "_law_counted" s_counted ["tree"] f_counted _ := ⟨F_counted, PySem.W.mg_of X G a_counted, F_counted.binds (ps := ["tree"]) fun _ _ _ _ _ _ us hl => match us, hl with | [_], _ => rfl⟩
  have F_oddtree := fun_mk (st := s_oddtree) l_oddtree c_f_oddtree k_oddtree
  have D_oddtree : Dn K mg "_law_odd_tree" s_oddtree ["store", "tree"] f_oddtree _ := ⟨F_oddtree, PySem.W.mg_of X G a_oddtree, F_oddtree.binds (ps := ["store", "tree"]) fun _ _ _ _ _ _ us hl => match us, hl with | [_, _], _ => rfl⟩
  have F_sizedtree := fun_mk (st := s_sizedtree) l_sizedtree c_f_sizedtree k_sizedtree
  have D_sizedtree : Dn K mg "_law_sized_tree" s_sizedtree ["store"] f_sizedtree _ := ⟨F_sizedtree, PySem.W.mg_of X G a_sizedtree, F_sizedtree.binds (ps := ["store"]) fun _ _ _ _ _ _ us hl => match us, hl with | [_], _ => rfl⟩
  have F_law := fun_mk (st := s_law) l_law c_f_law k_law
  have D_law : Dn K mg "law" s_law ["script"] _ _ := ⟨F_law, PySem.W.mg_of X G a_law, F_law.binds (ps := ["script"]) fun _ _ _ _ _ _ us hl => match us, hl with | [_], _ => rfl⟩
  have FI_BadTree := fun_mk (st := s_iBadTree) lI_BadTree cI_BadTree kI_BadTree
  have oex_BadTree : OexC K c_BadTree := ⟨⟨_, _, _, _, _, _, _, _, _, _, _, _, _, _, _, xL_BadTree, rv_BadTree⟩, sa_BadTree, ex_BadTree, ty_BadTree, kC_BadTree⟩
  have X_BadTree : Exn K mg "BadTree" c_BadTree fI_BadTree := ⟨oex_BadTree, PySem.W.mg_of X G e_BadTree, ini_BadTree, tf_BadTree⟩
  have XF_BadTree : XfC K c_BadTree := ⟨ga_BadTree, gg_BadTree, ex_BadTree, hd_BadTree⟩
  have XC_BadTree : ExcC K c_BadTree := ⟨ga_BadTree, gg_BadTree, ex_BadTree, hd_BadTree, ha_BadTree, hn_BadTree, ht_BadTree, hm_BadTree⟩
  have BI_BadTree := FI_BadTree.binds (ps := ["self", "at"]) fun _ _ _ _ _ _ us hl => match us, hl with | [_, _], _ => rfl
  refine ⟨PySem.W.fnOf "law" "law" (defArgs s_law) (defBody s_law) (defScope s_law) .none kV_law dc_law pm_law an_law cd_law ct_law, fun s v => .of_eq rfl, fun base _ _ => ?_⟩
  have GI_BadTree := ok_iBadTree (P := l.prog) (w := w) (mg := mg) (base := base) oex_BadTree no_BadTree_at FI_BadTree
  have B_sum := PySem.W.mg_none_of X G z_sum
  have G_take := ok_take (P := l.prog) (w := w) (base := base) B D_take D_mixed
  have G_pick := ok_pick (P := l.prog) (w := w) (base := base) B D_pick D_take G_take
  have G_pickL := ok_pickL (P := l.prog) (w := w) (base := base) B D_pick D_take G_take
  have G_chance := ok_chance (P := l.prog) (w := w) (base := base) B D_chance D_take G_take
  have G_number := ok_number (P := l.prog) (w := w) (base := base) B D_number D_take D_chance G_take G_chance
  have G_name := ok_name (P := l.prog) (w := w) (base := base) B D_name D_number D_pick G_number G_pick
  have G_isname := ok_isname (P := l.prog) (w := w) (base := base) B D_isname
  have G_treefault := ok_treefault (P := l.prog) (w := w) (base := base) B D_treefault D_isname G_isname
  have G_endofdeed := ok_endofdeed (P := l.prog) (w := w) (base := base) B X_BadTree BI_BadTree GI_BadTree D_endofdeed (PySem.W.mg_of X G g_LETTERS) (PySem.W.mg_of X G g_DIGITS) (PySem.W.mg_of X G g_PASS) (PySem.W.mg_of X G g_LONGEST_NAME)
  have G_readtree := ok_readtree (P := l.prog) (w := w) (base := base) B X_BadTree BI_BadTree GI_BadTree D_readtree D_endofdeed (PySem.W.mg_of X G g_MOST_OPEN) (PySem.W.mg_of X G g_MOST_PAIRS) G_endofdeed
  have G_asked := ok_asked (P := l.prog) (w := w) (base := base) B D_asked D_readtree X_BadTree XF_BadTree XC_BadTree no_BadTree_at me_BadTree (PySem.W.mg_of X G e_TworoomsError) kit_BadTree_TworoomsError G_readtree
  have G_same := same_all (P := l.prog) (w := w) (base := base) B D_same D_samerows 30
  have G_copy := copy_all (P := l.prog) (w := w) (base := base) B D_copy 30
  have G_twigs := twigs_all (P := l.prog) (w := w) (base := base) B D_twigs 14
  have G_writetree := writetree_all (P := l.prog) (w := w) (base := base) B D_writetree 14
  have G_treetext := treetext_all (P := l.prog) (w := w) (base := base) B D_treetext 14
  have G_treepairs := treepairs_all (P := l.prog) (w := w) (base := base) B B_sum D_treepairs 14
  have G_Ltreepairs := Ltreepairs_all (P := l.prog) (w := w) (base := base) B B_sum D_Ltreepairs 14
  have G_treedepth := treedepth_all (P := l.prog) (w := w) (base := base) B D_treedepth 14
  have G_treedeep := treedeep_all (P := l.prog) (w := w) (base := base) B D_treedeep 14
  have G_wr := ok_writtenright (P := l.prog) (w := w) (base := base) B D_writtenright D_twigs D_treetext D_writetree D_same G_twigs G_treetext G_writetree G_same
  have G_cn := ok_counted (P := l.prog) (w := w) (base := base) B D_counted D_treepairs D_treedepth D_Ltreepairs D_treedeep D_same G_treepairs G_treedepth G_Ltreepairs G_treedeep G_same
  have G_rr := ok_readright (P := l.prog) (w := w) (base := base) B D_readright D_asked D_treefault D_writtenright D_same G_asked G_treefault G_wr G_same
  have G_sp := ok_spoilttree (P := l.prog) (w := w) (base := base) B D_spoilttree D_take D_chance D_pick G_take G_chance G_pick G_pickL
  have G_tree := ok_tree (P := l.prog) (w := w) (base := base) B D_tree D_take D_pick D_name G_take G_pickL G_name
  have G_sz := ok_sizedtree (P := l.prog) (w := w) (base := base) B D_sizedtree D_chance D_pick D_tree G_chance G_pickL G_tree
  have G_od := oddtree_all (P := l.prog) (w := w) (base := base) B D_oddtree D_take D_chance D_pick G_take G_chance G_pickL 6
  have G_store := ok_store (P := l.prog) (w := w) (base := base) B D_store
  exact ok_law B D_law D_store D_sizedtree D_Ltreepairs D_chance D_pick D_tree D_take D_copy D_treetext D_writetree D_same D_counted D_asked D_readtree D_readright D_writtenright D_spoilttree D_oddtree G_store G_sz G_Ltreepairs G_chance G_pickL G_tree G_take G_copy G_treetext G_writetree G_same G_cn G_asked G_readtree G_rr G_wr G_sp G_od
end K01
open PySem PySem.W PyProof.Rows
set_option maxRecDepth 100000 in
set_option maxHeartbeats 0 in
theorem PySem.Challenge.cw_tworooms_k72_text_of_trees_holds : PySem.Challenge.rw_tworooms_k72_text_of_trees.Holds := by
  w_on; o_law; k_head; (case hw => w_witness2)
  k_fill
  refine L2.walk_of (l := PySem.Challenge.rw_tworooms_k72_text_of_trees) (n := 63) (k := 66) (x := "script") (CX := fun _ => L2.CX0) (sp := fun w => K01.spLaw _) rfl (by decide) rfl ⟨rfl, by decide, by decide⟩ (fun w h Y => PySem.W.kIn_of Y) ?F (fun _ _ a ns hl _ hS => ⟨a, ns, rfl, hS, hl, fun _ => rfl⟩) (fun _ _ _ _ _ h => h)
  case F =>
    intro w mg fa h KX G hmg
    refine' K01.all_mk KX G hmg ?a_writetree ?l_writetree ?c_f_writetree ?k_writetree ?a_readtree ?l_readtree ?c_f_readtree ?k_readtree ?a_treepairs ?l_treepairs ?c_f_treepairs ?k_treepairs ?a_treedepth ?l_treedepth ?c_f_treedepth ?k_treedepth ?a_endofdeed ?l_endofdeed ?c_f_endofdeed ?k_endofdeed ?a_store ?l_store ?c_f_store ?k_store ?a_mixed ?l_mixed ?c_f_mixed ?k_mixed ?a_take ?l_take ?c_f_take ?k_take ?a_pick ?l_pick ?c_f_pick ?k_pick ?a_chance ?l_chance ?c_f_chance ?k_chance ?a_number ?l_number ?c_f_number ?k_number ?a_same ?l_same ?c_f_same ?k_same ?a_samerows ?l_samerows ?c_f_samerows ?k_samerows ?a_copy ?l_copy ?c_f_copy ?k_copy ?a_isname ?l_isname ?c_f_isname ?k_isname ?a_name ?l_name ?c_f_name ?k_name ?a_tree ?l_tree ?c_f_tree ?k_tree ?a_treetext ?l_treetext ?c_f_treetext ?k_treetext ?a_Ltreepairs ?l_Ltreepairs ?c_f_Ltreepairs ?k_Ltreepairs ?a_treedeep ?l_treedeep ?c_f_treedeep ?k_treedeep ?a_treefault ?l_treefault ?c_f_treefault ?k_treefault ?a_spoilttree ?l_spoilttree ?c_f_spoilttree ?k_spoilttree ?a_asked ?l_asked ?c_f_asked ?k_asked ?a_readright ?l_readright ?c_f_readright ?k_readright ?a_writtenright ?l_writtenright ?c_f_writtenright ?k_writtenright ?a_twigs ?l_twigs ?c_f_twigs ?k_twigs ?a_counted ?l_counted ?c_f_counted ?k_counted ?a_oddtree ?l_oddtree ?c_f_oddtree ?k_oddtree ?a_sizedtree ?l_sizedtree ?c_f_sizedtree ?k_sizedtree ?a_law ?l_law ?c_f_law ?k_law ?e_BadTree ?e_TworoomsError ?kit_BadTree_TworoomsError ?xL_BadTree ?rv_BadTree ?sa_BadTree ?ex_BadTree ?ty_BadTree ?kC_BadTree ?ini_BadTree ?tf_BadTree ?ga_BadTree ?gg_BadTree ?hd_BadTree ?ha_BadTree ?hn_BadTree ?ht_BadTree ?hm_BadTree ?me_BadTree ?lI_BadTree ?cI_BadTree ?kI_BadTree ?no_BadTree_at ?g_PASS ?g_LETTERS ?g_DIGITS ?g_LONGEST_NAME ?g_MOST_OPEN ?g_MOST_PAIRS ?z_len ?z_range ?z_abs ?z_ord ?z_min ?z_max ?z_all ?z_isinstance ?z_int_ ?z_str_ ?z_bool_ ?z_list_ ?z_tuple_ ?z_dict_ ?z_sum
    (case a_writetree => k_is)
    (case l_writetree => k_is)
    (case c_f_writetree => k_is)
    (case k_writetree => k_is)
    (case a_readtree => k_is)
    (case l_readtree => k_is)
    (case c_f_readtree => k_is)
    (case k_readtree => k_is)
    (case a_treepairs => k_is)
    (case l_treepairs => k_is)
    (case c_f_treepairs => k_is)
    (case k_treepairs => k_is)
    (case a_treedepth => k_is)
    (case l_treedepth => k_is)
    (case c_f_treedepth => k_is)
    (case k_treedepth => k_is)
    (case a_endofdeed => k_is)
    (case l_endofdeed => k_is)
    (case c_f_endofdeed => k_is)
    (case k_endofdeed => k_is)
    (case a_store => k_is)
    (case l_store => k_is)
    (case c_f_store => k_is)
    (case k_store => k_is)
    (case a_mixed => k_is)
    (case l_mixed => k_is)
    (case c_f_mixed => k_is)
    (case k_mixed => k_is)
    (case a_take => k_is)
    (case l_take => k_is)
    (case c_f_take => k_is)
    (case k_take => k_is)
    (case a_pick => k_is)
    (case l_pick => k_is)
    (case c_f_pick => k_is)
    (case k_pick => k_is)
    (case a_chance => k_is)
    (case l_chance => k_is)
    (case c_f_chance => k_is)
    (case k_chance => k_is)
    (case a_number => k_is)
    (case l_number => k_is)
    (case c_f_number => k_is)
    (case k_number => k_is)
    (case a_same => k_is)
    (case l_same => k_is)
    (case c_f_same => k_is)
    (case k_same => k_is)
    (case a_samerows => k_is)
    (case l_samerows => k_is)
    (case c_f_samerows => k_is)
    (case k_samerows => k_is)
    (case a_copy => k_is)
    (case l_copy => k_is)
    (case c_f_copy => k_is)
    (case k_copy => k_is)
    (case a_isname => k_is)
    (case l_isname => k_is)
    (case c_f_isname => k_is)
    (case k_isname => k_is)
    (case a_name => k_is)
    (case l_name => k_is)
    (case c_f_name => k_is)
    (case k_name => k_is)
    (case a_tree => k_is)
    (case l_tree => k_is)
    (case c_f_tree => k_is)
    (case k_tree => k_is)
    (case a_treetext => k_is)
    (case l_treetext => k_is)
    (case c_f_treetext => k_is)
    (case k_treetext => k_is)
    (case a_Ltreepairs => k_is)
    (case l_Ltreepairs => k_is)
    (case c_f_Ltreepairs => k_is)
    (case k_Ltreepairs => k_is)
    (case a_treedeep => k_is)
    (case l_treedeep => k_is)
    (case c_f_treedeep => k_is)
    (case k_treedeep => k_is)
    (case a_treefault => k_is)
    (case l_treefault => k_is)
    (case c_f_treefault => k_is)
    (case k_treefault => k_is)
    (case a_spoilttree => k_is)
    (case l_spoilttree => k_is)
    (case c_f_spoilttree => k_is)
    (case k_spoilttree => k_is)
    (case a_asked => k_is)
    (case l_asked => k_is)
    (case c_f_asked => k_is)
    (case k_asked => k_is)
    (case a_readright => k_is)
    (case l_readright => k_is)
    (case c_f_readright => k_is)
    (case k_readright => k_is)
    (case a_writtenright => k_is)
    (case l_writtenright => k_is)
    (case c_f_writtenright => k_is)
    (case k_writtenright => k_is)
    (case a_twigs => k_is)
    (case l_twigs => k_is)
    (case c_f_twigs => k_is)
    (case k_twigs => k_is)
    (case a_counted => k_is)
    (case l_counted => k_is)
    (case c_f_counted => k_is)
    (case k_counted => k_is)
    (case a_oddtree => k_is)
    (case l_oddtree => k_is)
    (case c_f_oddtree => k_is)
    (case k_oddtree => k_is)
    (case a_sizedtree => k_is)
    (case l_sizedtree => k_is)
    (case c_f_sizedtree => k_is)
    (case k_sizedtree => k_is)
    (case a_law => k_is)
    (case l_law => k_is)
    (case c_f_law => k_is)
    (case k_law => k_is)
    (case e_BadTree => k_is)
    (case e_TworoomsError => k_is)
    (case kit_BadTree_TworoomsError => first | k_is | rfl)
    (case xL_BadTree => k_is)
    (case rv_BadTree => first | rfl | decide +kernel)
    (case sa_BadTree => k_is)
    (case ex_BadTree => k_is)
    (case ty_BadTree => k_is)
    (case kC_BadTree => k_is)
    (case ini_BadTree => k_is)
    (case tf_BadTree => k_is)
    (case ga_BadTree => k_is)
    (case gg_BadTree => k_is)
    (case hd_BadTree => k_is)
    (case ha_BadTree => k_is)
    (case hn_BadTree => k_is)
    (case ht_BadTree => k_is)
    (case hm_BadTree => k_is)
    (case me_BadTree => first | k_is | rfl)
    (case lI_BadTree => k_is)
    (case cI_BadTree => k_is)
    (case kI_BadTree => k_is)
    (case no_BadTree_at => k_is)
    (case g_PASS => k_is)
    (case g_LETTERS => k_is)
    (case g_DIGITS => k_is)
    (case g_LONGEST_NAME => k_is)
    (case g_MOST_OPEN => k_is)
    (case g_MOST_PAIRS => k_is)
    (case z_len => k_is)
    (case z_range => k_is)
    (case z_abs => k_is)
    (case z_ord => k_is)
    (case z_min => k_is)
    (case z_max => k_is)
    (case z_all => k_is)
    (case z_isinstance => k_is)
    (case z_int_ => k_is)
    (case z_str_ => k_is)
    (case z_bool_ => k_is)
    (case z_list_ => k_is)
    (case z_tuple_ => k_is)
    (case z_dict_ => k_is)
    (case z_sum => k_is)
