import PyProof.Rows.All
import Wide.All
import OpenK.AllK
import Wide.FinOn
import HandS.ForMost
import HandS.Wide
import HandS.IsInst
import HandS.ReplaceLit
import HandS.Codes
import HandS.ReplaceDef
import HandS.Style
import HandS.Base
import HandS.Comp
import HandS.HotCalls
import KE.KExcIs
import HandS.Exc
import HandS.ExcOwn
import HandS.ExcField
import HandS.ExcIs
import HandS.ExcInit
import HandS.ExcCtx
import HandS.Words
import HandS.WordsExc
import HandS.Dict
import HandS.More
import HandS.WrittenGet
import PySem.Challenge.RW_tworooms_k00_names_hands_and_numbers
set_option Elab.async false
set_option linter.all false
set_option maxRecDepth 100000
set_option maxHeartbeats 4000000
namespace K01
open PySem PySem.Spec PyProof.Rows L2
def topS (i : Nat) : Stmt := PySem.Challenge.pw_tworooms_k00_names_hands_and_numbers.main.body.getD i (.Pass ⟨0, 0, 0, 0⟩)
/-- built-ins that the top leaves as they are -/
structure Bi (mg : Str → Option Value) : Prop where
  len : mg "len" = none
  range : mg "range" = none
  abs : mg "abs" = none
  ord : mg "ord" = none
  min : mg "min" = none
  max : mg "max" = none
  all : mg "all" = none
  isinstance : mg "isinstance" = none
  int_ : mg "int" = none
  str_ : mg "str" = none
  bool_ : mg "bool" = none
  list_ : mg "list" = none
  tuple_ : mg "tuple" = none
  dict_ : mg "dict" = none
/-- a def of the top -/
structure Dn (K : PySem.W.Frag) (mg : Str → Option Value) (x : Str) (st : Stmt) (ps : List Str) (f : Addr) (fd : FuncData) : Prop where
  F : Fun K x x st f fd
  g : mg x = some (.ref f)
  b : Binds K fd ps []
/-! ### readings that simp can take -/
theorem callR_mono {X : Cx} {f : Value} {r r' : List V → Hp → VK → Prop} (h : CallR X f r) (k : ∀ xs H Q, r' xs H Q → r xs H Q) : CallR X f r' :=
  fun pins s σ H xs us Q I rv q => h pins s σ H xs us Q I rv (k _ _ _ q)
theorem r_seq {t u : TS} {D : Ends} {σ : L2.St} {H : Hp} (h : t { D with nx := u D } σ H) : tSeq t u D σ H := h
theorem r_cut {t u : TS} {D : Ends} {σ : L2.St} {H : Hp} (M : L2.St → Hp → Prop) (h1 : ∀ N : L2.St → Hp → Prop, (∀ σ H, M σ H → N σ H) → t { D with nx := N } σ H) (h2 : ∀ σ' H', M σ' H' → u D σ' H') : C8.tCut t u D σ H := ⟨M, h1 M (fun _ _ h => h), h2⟩
/-! ### loops and comprehensions, folded -/
def LoopR (lo : Int) (n : Nat) (g : TG) (tb : TS) (D : Ends) (σ : L2.St) (H : Hp) : Prop := ∃ W : Nat → Nat → L2.St → Hp → Prop, (∃ m, W 0 m σ H) ∧ ∀ i m σ H, W i m σ H →
  ((Itr lo n).stop i H ∧ D.nx σ H) ∨ ((Itr lo n).go i H ∧ ∃ N : L2.St → Hp → Prop, (∀ σ' H', N σ' H' → ∃ m', m' < m ∧ W (i + 1) m' σ' H') ∧ ∀ x H', (Itr lo n).yld i H x H' → g x σ H' fun σ2 H2 => tb { D with nx := N, ct := N, bk := D.nx } σ2 H2)
def LoopL (K : PySem.W.Frag) (a : Addr) (g : TG) (tb : TS) (D : Ends) (σ : L2.St) (H : Hp) : Prop := ∃ W : Nat → Nat → L2.St → Hp → Prop, (∃ m, W 0 m σ H) ∧ ∀ i m σ H, W i m σ H →
  ((Itl K a).stop i H ∧ D.nx σ H) ∨ ((Itl K a).go i H ∧ ∃ N : L2.St → Hp → Prop, (∀ σ' H', N σ' H' → ∃ m', m' < m ∧ W (i + 1) m' σ' H') ∧ ∀ x H', (Itl K a).yld i H x H' → g x σ H' fun σ2 H2 => tb { D with nx := N, ct := N, bk := D.nx } σ2 H2)
def LoopS (z : Str) (g : TG) (tb : TS) (D : Ends) (σ : L2.St) (H : Hp) : Prop := ∃ W : Nat → Nat → L2.St → Hp → Prop, (∃ m, W 0 m σ H) ∧ ∀ i m σ H, W i m σ H →
  ((Its z).stop i H ∧ D.nx σ H) ∨ ((Its z).go i H ∧ ∃ N : L2.St → Hp → Prop, (∀ σ' H', N σ' H' → ∃ m', m' < m ∧ W (i + 1) m' σ' H') ∧ ∀ x H', (Its z).yld i H x H' → g x σ H' fun σ2 H2 => tb { D with nx := N, ct := N, bk := D.nx } σ2 H2)
theorem forR_eq {ta : TA} {g : TG} {tb : TS} {D : Ends} {σ : L2.St} {H : Hp} : tFor (iRng1 ta) g tb D σ H = ta σ H (fun vs H1 => ∃ j : Int, vs = [V.int j] ∧ -(2 ^ 62) ≤ j ∧ j < 2 ^ 62 ∧ LoopR 0 j.toNat g tb D σ H1) := rfl
theorem forR2_eq {ta : TA} {g : TG} {tb : TS} {D : Ends} {σ : L2.St} {H : Hp} : tFor (iRng2 ta) g tb D σ H = ta σ H (fun vs H1 => ∃ i j : Int, vs = [V.int i, V.int j] ∧ (-(2 ^ 62) ≤ i ∧ i < 2 ^ 62 ∧ -(2 ^ 62) ≤ j ∧ j < 2 ^ 62) ∧ LoopR i (j - i).toNat g tb D σ H1) := rfl
theorem forS_eq {te : TE} {g : TG} {tb : TS} {D : Ends} {σ : L2.St} {H : Hp} : tFor (iStr te) g tb D σ H = te σ H (fun v H1 => ∃ z, v = V.str z ∧ LoopS z g tb D σ H1) := rfl
theorem forL_eq {K : PySem.W.Frag} {te : TE} {g : TG} {tb : TS} {D : Ends} {σ : L2.St} {H : Hp} : tFor (iList K te) g tb D σ H = te σ H (fun v H1 => ∃ a, v = V.ref a ∧ ∃ xs, SqL K H1 a xs ∧ LoopL K a g tb D σ H1) := by
  show te σ H _ = te σ H _
  congr 1
  funext v H1
  refine propext ⟨fun ⟨a, e, ⟨xs, h⟩, q⟩ => ⟨a, e, xs, h, q⟩, fun ⟨a, e, xs, h, q⟩ => ⟨a, e, ⟨xs, h⟩, q⟩⟩
theorem r_range {lo : Int} {n : Nat} {g : TG} {tb : TS} {D : Ends} {σ : L2.St} {H : Hp} (Pv : Nat → L2.St → Hp → Prop) (h0 : Pv 0 σ H)
    (hs : ∀ i σ H, i < n → Pv i σ H → ∀ N : L2.St → Hp → Prop, (∀ σ H, Pv (i + 1) σ H → N σ H) → g (.int (lo + i)) σ H fun σ2 H2 => tb { D with nx := N, ct := N, bk := D.nx } σ2 H2) (hd : ∀ σ H, Pv n σ H → D.nx σ H) : LoopR lo n g tb D σ H :=
  for_range Pv h0 (fun i σ H hi hp => hs i σ H hi hp _ (fun _ _ h => h)) hd
theorem r_list {K : PySem.W.Frag} {a : Addr} (xs : List V) {g : TG} {tb : TS} {D : Ends} {σ : L2.St} {H : Hp} (Pv : Nat → L2.St → Hp → Prop) (h0 : Pv 0 σ H) (hl : ∀ i σ H, i ≤ xs.length → Pv i σ H → SqL K H a xs)
    (hs : ∀ i x σ H, xs[i]? = some x → Pv i σ H → ∀ N : L2.St → Hp → Prop, (∀ σ H, Pv (i + 1) σ H → N σ H) → g x σ H fun σ2 H2 => tb { D with nx := N, ct := N, bk := D.nx } σ2 H2) (hd : ∀ σ H, Pv xs.length σ H → D.nx σ H) : LoopL K a g tb D σ H :=
  for_list Pv h0 hl (fun i x σ H hi hp => hs i x σ H hi hp _ (fun _ _ h => h)) hd
theorem r_str (z : Str) {g : TG} {tb : TS} {D : Ends} {σ : L2.St} {H : Hp} (Pv : Nat → L2.St → Hp → Prop) (h0 : Pv 0 σ H)
    (hs : ∀ i c σ H, z.cps.toList[i]? = some c → Pv i σ H → ∀ N : L2.St → Hp → Prop, (∀ σ H, Pv (i + 1) σ H → N σ H) → g (.str ⟨#[c]⟩) σ H fun σ2 H2 => tb { D with nx := N, ct := N, bk := D.nx } σ2 H2) (hd : ∀ σ H, Pv z.cps.toList.length σ H → D.nx σ H) : LoopS z g tb D σ H := by
  refine ⟨fun i m σ H => m = z.cps.toList.length - i ∧ i ≤ z.cps.toList.length ∧ Pv i σ H, ⟨_, rfl, Nat.zero_le _, h0⟩, ?_⟩
  rintro i m σ H ⟨rfl, hi, p⟩
  have el : z.cps.toList.length = z.cps.size := Array.length_toList
  by_cases hlt : i < z.cps.toList.length
  · refine .inr ⟨by rw [el] at hlt; exact hlt, Pv (i + 1), fun σ' H' p' => ⟨z.cps.toList.length - (i + 1), by omega, rfl, hlt, p'⟩, fun x H' y => ?_⟩
    obtain ⟨e, c, hc, ex⟩ := y
    subst e ex
    refine hs i c σ _ ?_ p _ fun _ _ h => h
    rw [Array.getElem?_toList]
    exact hc
  · have e : i = z.cps.toList.length := by omega
    subst e
    exact .inl ⟨by show z.cps.size ≤ z.cps.toList.length; omega, hd σ H p⟩
def LcL (K : PySem.W.Frag) (a : Addr) (g : TG) (te : TE) (vs : List Nat) (σ : L2.St) (H1 : Hp) (D : Addr) (Q : Hp → Prop) : Prop := ∃ W : Nat → Nat → Hp → Prop, (∃ m, W 0 m (upd H1 D (.lst []))) ∧ ∀ i m H, W i m H →
  ((Itl K a).stop i H ∧ Q H) ∨ ((Itl K a).go i H ∧ ∃ Nx : Hp → Prop, (∀ H', Nx H' → ∃ m', m' < m ∧ W (i + 1) m' H') ∧ ∀ x H', (Itl K a).yld i H x H' → g x (wipe σ vs) H' fun σ2 H2 => wipe σ2 vs = wipe σ vs ∧ tYes σ2 H2 fun b H3 =>
    if b = true then te σ2 H3 fun y H4 => ∃ acc, H4 D = some (.lst acc) ∧ acc.length < sizeLine ∧ Nx (upd H4 D (.lst (acc ++ [y]))) else Nx H3)
def LcR (lo : Int) (n : Nat) (g : TG) (te : TE) (vs : List Nat) (σ : L2.St) (H1 : Hp) (D : Addr) (Q : Hp → Prop) : Prop := ∃ W : Nat → Nat → Hp → Prop, (∃ m, W 0 m (upd H1 D (.lst []))) ∧ ∀ i m H, W i m H →
  ((Itr lo n).stop i H ∧ Q H) ∨ ((Itr lo n).go i H ∧ ∃ Nx : Hp → Prop, (∀ H', Nx H' → ∃ m', m' < m ∧ W (i + 1) m' H') ∧ ∀ x H', (Itr lo n).yld i H x H' → g x (wipe σ vs) H' fun σ2 H2 => wipe σ2 vs = wipe σ vs ∧ tYes σ2 H2 fun b H3 =>
    if b = true then te σ2 H3 fun y H4 => ∃ acc, H4 D = some (.lst acc) ∧ acc.length < sizeLine ∧ Nx (upd H4 D (.lst (acc ++ [y]))) else Nx H3)
def LcS (z : Str) (g : TG) (te : TE) (vs : List Nat) (σ : L2.St) (H1 : Hp) (D : Addr) (Q : Hp → Prop) : Prop := ∃ W : Nat → Nat → Hp → Prop, (∃ m, W 0 m (upd H1 D (.lst []))) ∧ ∀ i m H, W i m H →
  ((Its z).stop i H ∧ Q H) ∨ ((Its z).go i H ∧ ∃ Nx : Hp → Prop, (∀ H', Nx H' → ∃ m', m' < m ∧ W (i + 1) m' H') ∧ ∀ x H', (Its z).yld i H x H' → g x (wipe σ vs) H' fun σ2 H2 => wipe σ2 vs = wipe σ vs ∧ tYes σ2 H2 fun b H3 =>
    if b = true then te σ2 H3 fun y H4 => ∃ acc, H4 D = some (.lst acc) ∧ acc.length < sizeLine ∧ Nx (upd H4 D (.lst (acc ++ [y]))) else Nx H3)
theorem lcL_eq {K : PySem.W.Frag} {tl te : TE} {g : TG} {vs : List Nat} {σ : L2.St} {H : Hp} {Q : VK} : tLc (iList K tl) g tYes te vs σ H Q = tl σ H (fun v H1 => ∃ a, v = V.ref a ∧ ∃ xs, SqL K H1 a xs ∧ ∀ D, H1 D = none → LcL K a g te vs σ H1 D (Q (.ref D))) := by
  show tl σ H _ = tl σ H _
  congr 1
  funext v H1
  exact propext ⟨fun ⟨a, e, ⟨xs, h⟩, q⟩ => ⟨a, e, xs, h, q⟩, fun ⟨a, e, xs, h, q⟩ => ⟨a, e, ⟨xs, h⟩, q⟩⟩
theorem lcR_eq {ta : TA} {te : TE} {g : TG} {vs : List Nat} {σ : L2.St} {H : Hp} {Q : VK} : tLc (iRng1 ta) g tYes te vs σ H Q = ta σ H (fun vs' H1 => ∃ j : Int, vs' = [V.int j] ∧ -(2 ^ 62) ≤ j ∧ j < 2 ^ 62 ∧ ∀ D, H1 D = none → LcR 0 j.toNat g te vs σ H1 D (Q (.ref D))) := rfl
theorem lcS_eq {tl te : TE} {g : TG} {vs : List Nat} {σ : L2.St} {H : Hp} {Q : VK} : tLc (iStr tl) g tYes te vs σ H Q = tl σ H (fun v H1 => ∃ z, v = V.str z ∧ ∀ D, H1 D = none → LcS z g te vs σ H1 D (Q (.ref D))) := rfl
/-- a comprehension without a test; N: what is behind a turn -/
theorem r_lcL {K : PySem.W.Frag} {a : Addr} (xs : List V) {j : Nat} {te : TE} {vs : List Nat} {σ : L2.St} {H1 : Hp} {D : Addr} {Qd : Hp → Prop} (Pv : Nat → Hp → Prop) (hw : ∀ x, wipe ((wipe σ vs).set j (some x)) vs = wipe σ vs)
    (h0 : Pv 0 (upd H1 D (.lst []))) (hl : ∀ i H, i ≤ xs.length → Pv i H → SqL K H a xs)
    (hs : ∀ i x H, xs[i]? = some x → Pv i H → ∀ N : VK, (∀ y H4 acc, H4 D = some (.lst acc) → acc.length < sizeLine → Pv (i + 1) (upd H4 D (.lst (acc ++ [y]))) → N y H4) → te ((wipe σ vs).set j (some x)) H N) (hd : ∀ H, Pv xs.length H → Qd H) : LcL K a (gName j) te vs σ H1 D Qd :=
  lc_list (g := gName j) (tt := tYes) Pv h0 hl (fun i x H hx hp => ⟨hw x, by
    simp only [tYes, if_pos]
    exact hs i x H hx hp _ fun y H4 acc h1 h2 h3 => ⟨acc, h1, h2, h3⟩⟩) hd
theorem r_lcR {lo : Int} {n : Nat} {j : Nat} {te : TE} {vs : List Nat} {σ : L2.St} {H1 : Hp} {D : Addr} {Qd : Hp → Prop} (Pv : Nat → Hp → Prop) (hw : ∀ x, wipe ((wipe σ vs).set j (some x)) vs = wipe σ vs)
    (h0 : Pv 0 (upd H1 D (.lst [])))
    (hs : ∀ i H, i < n → Pv i H → ∀ N : VK, (∀ y H4 acc, H4 D = some (.lst acc) → acc.length < sizeLine → Pv (i + 1) (upd H4 D (.lst (acc ++ [y]))) → N y H4) → te ((wipe σ vs).set j (some (.int (lo + i)))) H N) (hd : ∀ H, Pv n H → Qd H) : LcR lo n (gName j) te vs σ H1 D Qd :=
  lc_range (g := gName j) (tt := tYes) Pv h0 (fun i H hi hp => ⟨hw _, by
    simp only [tYes, if_pos]
    exact hs i H hi hp _ fun y H4 acc h1 h2 h3 => ⟨acc, h1, h2, h3⟩⟩) hd
theorem r_lcS (z : Str) {j : Nat} {te : TE} {vs : List Nat} {σ : L2.St} {H1 : Hp} {D : Addr} {Qd : Hp → Prop} (Pv : Nat → Hp → Prop) (hw : ∀ x, wipe ((wipe σ vs).set j (some x)) vs = wipe σ vs)
    (h0 : Pv 0 (upd H1 D (.lst [])))
    (hs : ∀ i c H, z.cps.toList[i]? = some c → Pv i H → ∀ N : VK, (∀ y H4 acc, H4 D = some (.lst acc) → acc.length < sizeLine → Pv (i + 1) (upd H4 D (.lst (acc ++ [y]))) → N y H4) → te ((wipe σ vs).set j (some (.str ⟨#[c]⟩))) H N) (hd : ∀ H, Pv z.cps.toList.length H → Qd H) : LcS z (gName j) te vs σ H1 D Qd := by
  refine ⟨fun i m H => m = z.cps.toList.length - i ∧ i ≤ z.cps.toList.length ∧ Pv i H, ⟨_, rfl, Nat.zero_le _, h0⟩, ?_⟩
  rintro i m H ⟨rfl, hi, p⟩
  have el : z.cps.toList.length = z.cps.size := Array.length_toList
  by_cases hlt : i < z.cps.toList.length
  · refine .inr ⟨by rw [el] at hlt; exact hlt, Pv (i + 1), fun H' p' => ⟨z.cps.toList.length - (i + 1), by omega, rfl, hlt, p'⟩, fun x H' y => ?_⟩
    obtain ⟨e, c, hc, ex⟩ := y
    subst e ex
    refine ⟨hw _, ?_⟩
    simp only [tYes, if_pos]
    exact hs i c _ (by rw [Array.getElem?_toList]; exact hc) p _ fun y H4 acc h1 h2 h3 => ⟨acc, h1, h2, h3⟩
  · have e : i = z.cps.toList.length := by omega
    subst e
    exact .inl ⟨by show z.cps.size ≤ z.cps.toList.length; omega, hd H p⟩
/-! ### built-ins, by named readings -/
def rLenX (K : PySem.W.Frag) (xs : List V) (H : Hp) (Q : VK) : Prop := ∃ p, xs = [V.ref p] ∧ ∃ ys, (SqL K H p ys ∨ SqT K H p ys) ∧ Q (.int ys.length) H
theorem call_lenX {X : Cx} : CallR X (.builtin "len") (rLenX X.K) := callR_mono call_len_seq fun xs H Q ⟨p, e, ys, h, q⟩ => ⟨p, ys, e, h, q⟩
def rLenS (xs : List V) (H : Hp) (Q : VK) : Prop := ∃ z, xs = [V.str z] ∧ z.length ≤ sizeLine ∧ Q (.int z.length) H
theorem call_lenS {X : Cx} : CallR X (.builtin "len") rLenS := callR_mono call_len_str fun xs H Q h => h
def rIntI (xs : List V) (H : Hp) (Q : VK) : Prop := ∃ i, xs = [V.int i] ∧ Q (.int i) H
theorem call_intI {X : Cx} : CallR X (.type "int") rIntI := callR_mono call_int1 fun _ _ _ h => .inl h
def rIntB (xs : List V) (H : Hp) (Q : VK) : Prop := ∃ k, xs = [V.bl k] ∧ Q (.int (if k = true then 1 else 0)) H
theorem call_intB {X : Cx} : CallR X (.type "int") rIntB := callR_mono call_int1 fun _ _ _ h => .inr h
def rIntS (xs : List V) (H : Hp) (Q : VK) : Prop := ∃ z, xs = [V.str z] ∧ ∃ n, PySem.intText? z = some n ∧ z.length ≤ 640 ∧ Q (.int n) H
theorem call_intS {X : Cx} : CallR X (.type "int") rIntS := callR_mono call_int_str fun _ _ _ ⟨z, e, n, h1, h2, q⟩ => ⟨z, n, e, h1, h2, q⟩
def rStrI (xs : List V) (H : Hp) (Q : VK) : Prop := ∃ i, xs = [V.int i] ∧ i.natAbs.log2 < 1920 ∧ Q (.str (toString i)) H
theorem call_strI {X : Cx} : CallR X (.type "str") rStrI := callR_mono call_str_int fun _ _ _ h => h
def rAbs (xs : List V) (H : Hp) (Q : VK) : Prop := ∃ i, xs = [V.int i] ∧ Q (.int (if i < 0 then -i else i)) H
theorem call_absI {X : Cx} : CallR X (.builtin "abs") rAbs := callR_mono call_abs fun _ _ _ h => h
def rOrd (xs : List V) (H : Hp) (Q : VK) : Prop := ∃ c : Nat, xs = [V.str ⟨#[c]⟩] ∧ Q (.int c) H
theorem call_ordI {X : Cx} : CallR X (.builtin "ord") rOrd := callR_mono call_ord fun _ _ _ ⟨c, e, q⟩ => ⟨_, e, rfl, q⟩
def rMin (xs : List V) (H : Hp) (Q : VK) : Prop := ∃ i j, xs = [V.int i, V.int j] ∧ Q (.int (if j < i then j else i)) H
theorem call_minI {X : Cx} (hc : X.calm = true) : CallR X (.builtin "min") rMin := callR_mono (call_min2 hc) fun _ _ _ h => h
def rMax (xs : List V) (H : Hp) (Q : VK) : Prop := ∃ i j, xs = [V.int i, V.int j] ∧ Q (.int (if j > i then j else i)) H
theorem call_maxI {X : Cx} (hc : X.calm = true) : CallR X (.builtin "max") rMax := callR_mono (call_max2 hc) fun _ _ _ h => h
def rSplit (x : V) (xs : List V) (H : Hp) (Q : VK) : Prop := ∃ a, x = .str a ∧ ∃ b, xs = [V.str b] ∧ (b.length == 0) = false ∧ a.length + 2 ≤ sizeLine ∧ ∀ p, H p = none → Q (.ref p) (L2.upd H p (.lst ((Txt.split a b).map V.str)))
def rJoin (K : PySem.W.Frag) (x : V) (xs : List V) (H : Hp) (Q : VK) : Prop := ∃ a, x = .str a ∧ ∃ p, xs = [V.ref p] ∧ ∃ ys : List Str, SqL K H p (ys.map V.str) ∧ (ys.map (·.length)).sum + ys.length * a.length ≤ 16777216 ∧ Q (.str (Txt.join a ys)) H
theorem mtR_mono {X : Cx} {id : String} {r r' : V → List V → Hp → VK → Prop} (h : MtR X id r) (k : ∀ x xs H Q, r' x xs H Q → r x xs H Q) : MtR X id r' :=
  fun pins s σ H x xs v us Q I rx rv q => h pins s σ H x xs v us Q I rx rv (k _ _ _ _ q)
def rSplitN (x : V) (xs : List V) (H : Hp) (Q : VK) : Prop := ∃ a, x = .str a ∧ ∃ b, xs = [V.str b] ∧ (b.length == 0) = false ∧ a.length + 2 ≤ sizeLine ∧ ∀ p, H p = none → Q (.ref p) (L2.upd H p (.lst ((Txt.split a b).map V.str)))
theorem mt_splitN {X : Cx} : MtR X "str.split" rSplitN := mtR_mono mt_split fun _ _ _ _ ⟨a, e, b, e2, h, h2, q⟩ => ⟨a, b, e, e2, h, h2, q⟩
def rJoinN (K : PySem.W.Frag) (x : V) (xs : List V) (H : Hp) (Q : VK) : Prop := ∃ a, x = .str a ∧ ∃ p, xs = [V.ref p] ∧ ∃ ys : List Str, SqL K H p (ys.map V.str) ∧ (ys.map (·.length)).sum + ys.length * a.length ≤ 16777216 ∧ Q (.str (Txt.join a ys)) H
theorem mt_joinN {X : Cx} : MtR X "str.join" (rJoinN X.K) := mtR_mono mt_join fun _ _ _ _ ⟨a, e, p, e2, ys, h, h2, q⟩ => ⟨a, p, ys, e, e2, .inl h, h2, q⟩
/-- an item of a list or a tuple -/
def rIxX (K : PySem.W.Frag) : R2 := fun x y H Q => ∃ p i, x = .ref p ∧ y = .int i ∧ ∃ xs, (SqL K H p xs ∨ SqT K H p xs) ∧ ∃ v, atI xs i = some v ∧ Q v H
theorem ix_sx {X : Cx} : IxR X (rIxX X.K) := by
  intro value slice pins s σ H x y v u Q I rx ry h hs
  obtain ⟨p, i, e1, e2, xs, hq | hq, z, he, q⟩ := h
  · exact ix_list value slice pins s σ H x y v u Q I rx ry ⟨p, xs, i, z, e1, e2, hq, he, q⟩ hs
  · exact ix_tup value slice pins s σ H x y v u Q I rx ry ⟨p, xs, i, z, e1, e2, hq, he, q⟩ hs
/-! ### the same rules with the written part named -/
theorem ix_listK {X : Cx} {K : PySem.W.Frag} (h : X.K = K := by rfl) : IxR X (rIxL K) := h ▸ ix_list
theorem ix_tupK {X : Cx} {K : PySem.W.Frag} (h : X.K = K := by rfl) : IxR X (rIxT K) := h ▸ ix_tup
theorem ix_sxK {X : Cx} {K : PySem.W.Frag} (h : X.K = K := by rfl) : IxR X (rIxX K) := h ▸ ix_sx
theorem sl_listK {X : Cx} {K : PySem.W.Frag} (h : X.K = K := by rfl) : SlR X (rSlL K) := h ▸ sl_list
theorem call_lenXK {X : Cx} {K : PySem.W.Frag} (h : X.K = K := by rfl) : CallR X (.builtin "len") (rLenX K) := h ▸ call_lenX
theorem mt_joinK {X : Cx} {K : PySem.W.Frag} (h : X.K = K := by rfl) : MtR X "str.join" (rJoinN K) := h ▸ mt_joinN
theorem pi_listK {X : Cx} {K : PySem.W.Frag} {tg l : Expr} {tl : TE} (hl : PE X l tl) (h : X.K = K := by rfl) : PI X tg l (iList K tl) := h ▸ pi_list hl
theorem atI_get {α : Type} {xs : List α} {i : Int} (h0 : 0 ≤ i) (h : i.toNat < xs.length) : ∃ z, atI xs i = some z ∧ xs[i.toNat]? = some z := by
  have e : i = (i.toNat : Int) := by omega
  have g := List.getElem?_eq_getElem h
  exact ⟨_, (congrArg (atI xs) e).trans (atI_nat g), g⟩
theorem atI_map {ns : List Int} {i : Int} (h0 : 0 ≤ i) (h : i.toNat < ns.length) : ∃ z, atI (ns.map V.int) i = some (.int z) := by
  obtain ⟨z, e1, e2⟩ := atI_get (xs := ns.map V.int) h0 (by rw [List.length_map]; exact h)
  rw [List.getElem?_map] at e2
  cases e : ns[i.toNat]? with
  | none =>
    rw [e] at e2
    cases e2
  | some y =>
    rw [e] at e2
    cases e2
    exact ⟨y, e1⟩
theorem map_get {α β : Type} {f : α → β} {xs : List α} {i : Nat} {y : β} (h : (xs.map f)[i]? = some y) : ∃ x, xs[i]? = some x ∧ y = f x := by
  rw [List.getElem?_map] at h
  cases e : xs[i]? with
  | none => rw [e] at h; cases h
  | some x => rw [e] at h; exact ⟨x, rfl, (Option.some.inj h).symm⟩
theorem take_map {α β : Type} {f : α → β} {xs : List α} {i : Nat} {x : α} (h : xs[i]? = some x) : (xs.take i).map f ++ [f x] = (xs.take (i + 1)).map f := by
  rw [List.take_add_one, h, List.map_append]
  rfl
theorem lt_of_get {α : Type} {xs : List α} {i : Nat} {x : α} (h : xs[i]? = some x) : i < xs.length := (List.getElem?_eq_some_iff.mp h).1
theorem start1 {N : List Str} {vs : List V} : L2.start N vs = vs.map some ++ List.replicate (N.length - vs.length) none := rfl
theorem sq_of {K : PySem.W.Frag} {H : Hp} {a : Addr} {xs : List V} (h : H a = some (.lst xs)) : SqL K H a xs := .inl (.inl h)
/-- all that was tracked stands, but what is at a -/
def But (a : Addr) (H H' : Hp) : Prop := ∀ b o, b ≠ a → H b = some o → H' b = some o
theorem But.refl (a : Addr) (H : Hp) : But a H H := fun _ _ _ h => h
theorem But.trans {a : Addr} {H H1 H2 : Hp} (p : But a H H1) (q : But a H1 H2) : But a H H2 := fun b o n h => q b o n (p b o n h)
theorem But.updA {a : Addr} {H : Hp} {o : HO} : But a H (L2.upd H a o) := fun b x n h => by rw [upd_ne n]; exact h
theorem But.new {a p : Addr} {H : Hp} {o : HO} (h : H p = none) : But a H (upd H p o) := fun b x _ e => by rw [upd_ne (ne_of_none e h)]; exact e
theorem But.of {a : Addr} {H H' : Hp} (h : Same H H') : But a H H' := fun b o _ e => h b o e
theorem Same.new {p : Addr} {H : Hp} {o : HO} (h : H p = none) : Same H (upd H p o) := fun b x e => by rw [upd_ne (ne_of_none e h)]; exact e
theorem But.same {c : Addr} {H H' : Hp} (n : H c = none) (h : But c H H') : Same H H' := fun b o e => h b o (ne_of_none e n) e
theorem But.seq {K : PySem.W.Frag} {c a : Addr} {H H' : Hp} {xs : List V} (h : But c H H') (n : a ≠ c) (S : SqL K H a xs) : SqL K H' a xs := by
  rcases S with (S | ⟨o, S⟩) | S
  · exact .inl (.inl (h _ _ n S))
  · exact .inl (.inr ⟨o, h _ _ n S⟩)
  · exact .inr S
end K01
namespace K01
open PySem PySem.Spec PyProof.Rows L2
def rAllK (K : PySem.W.Frag) (vs : List V) (H : Hp) (Q : VK) : Prop := ∃ a, vs = [V.ref a] ∧ ∃ bs : List Bool, SqL K H a (bs.map V.bl) ∧ Q (.bl (bs.all id)) H
theorem call_allK {X : Cx} {K : PySem.W.Frag} (h : X.K = K := by rfl) (hc : X.calm = true := by rfl) : CallR X (.builtin "all") (rAllK K) := callR_mono (h ▸ cr_all hc) fun _ _ _ ⟨a, e, bs, h1, q⟩ => ⟨a, bs, e, h1, q⟩
theorem opR_mono {X : Cx} {f : Value → Value → Sem Value} {r r' : R2} (h : OpR X f r) (k : ∀ x y H Q, r' x y H Q → r x y H Q) : OpR X f r' := fun pins s σ H x y v u Q I rx ry q => h pins s σ H x y v u Q I rx ry (k _ _ _ _ q)
def rInSg (x y : V) (H : Hp) (Q : VK) : Prop := ∃ c : Nat, x = .str ⟨#[c]⟩ ∧ ∃ z : Str, y = .str z ∧ Q (.bl (decide (c ∈ z.cps.toList))) H
theorem op_inSg {X : Cx} : OpR X (compareOp .In) rInSg := opR_mono op_in_sign fun _ _ _ _ ⟨c, e, z, e2, q⟩ => ⟨c, z, e, e2, q⟩
def rNinSg (x y : V) (H : Hp) (Q : VK) : Prop := ∃ c : Nat, x = .str ⟨#[c]⟩ ∧ ∃ z : Str, y = .str z ∧ Q (.bl (!decide (c ∈ z.cps.toList))) H
theorem op_ninSg {X : Cx} : OpR X (compareOp .NotIn) rNinSg := opR_mono op_notIn_sign fun _ _ _ _ ⟨c, e, z, e2, q⟩ => ⟨c, z, e, e2, q⟩
theorem sgn_inj {a b : Nat} : ((⟨#[a]⟩ : Str) = ⟨#[b]⟩) = (a = b) := propext ⟨fun h => by
  have e := congrArg (fun z : Str => z.cps.toList) h
  simpa using e, fun h => by rw [h]⟩
def rAddS (x y : V) (H : Hp) (Q : VK) : Prop := ∃ i, x = .str i ∧ ∃ j, y = .str j ∧ i.length + j.length ≤ sizeLine ∧ Q (.str (i ++ j)) H
theorem op_addS {X : Cx} : OpR X (binaryOp .Add) rAddS := opR_mono op_add_str fun _ _ _ _ ⟨i, e, j, e2, h, q⟩ => ⟨i, j, e, e2, h, q⟩
def rInSt (x y : V) (H : Hp) (Q : VK) : Prop := ∃ i, x = .str i ∧ ∃ j, y = .str j ∧ Q (.bl (!(Builtin.Str.occurrences j i 0 j.length 1).isEmpty)) H
theorem op_inSt {X : Cx} : OpR X (compareOp .In) rInSt := opR_mono op_in_str fun _ _ _ _ ⟨i, e, j, e2, q⟩ => ⟨i, j, e, e2, q⟩
end K01
namespace K01
open PySem PySem.Spec PyProof.Rows L2
/-! ### where a token is out -/
theorem okT {P : Program} {w : World} {K : PySem.W.Frag} {mg : Str → Option Value} {base : Heap} {x qual : Str} {st : Stmt} {f : Addr} {fd : FuncData} {N ps : List Str} {k : Nat} {sp : Sp} (F : Fun K x qual st f fd) (S : FnScope N ps (defScope st))
    (nc : ∀ y ∈ (defScope st).names, y.2 ≠ .cell) (one : 1 ≤ ps.length) (ln : ∀ vs H Q E, sp vs H Q E → vs.length = ps.length)
    (body : ∀ (cv : Value) (A : Around) (ou : List Env) (s : Shared) (H : Hp) (vs : List V) (Q : VK) (E : XK), Room k (A.deeper (envOfC qual (defScope st) s.heap.objs.size f cv)) → sp vs H Q E →
      ∃ t, PSsT (cxOf CX0 P w K mg base N qual (defScope st) f cv A ou s H E) (defBody st) t ∧ t { nx := fun _ H' => Q .non H', rt := Q } (L2.start N vs) H) : FnOk P w K mg base CX0 (k + 1) f fd ps sp := by
  obtain ⟨oc, od, kV, doc, pm, an, cv, ct, osl, e, lk, hcd⟩ := F.ex
  subst e
  exact fn_ofT lk hcd S nc one ln fun A ou s H vs Q E hr hs => body cv A ou s H vs Q E hr hs
section
variable {X : Cx}
structure PA1 (X : Cx) (es : List Expr) (t : TA) : Prop where
  go : ∀ (ps : Pos) (pn : List (Addr × Obj)) (s : Shared) (σ : L2.St) (H : Hp) (Q : List V → Hp → Prop), Inv X pn σ H s → t σ H Q →
    wpAny (model X.prog X.w) X.A (spliced (backTo ps (starEach es X.env))) (fun us s' => 1 ≤ s'.toks ∧ AP X pn σ Q us s') X.xe s
theorem pa1_int {i : Int} {j : Nat} {ps : Pos} (hs : starEach [.Constant (.int i) j ps] X.env = [(false, eval (.Constant (.int i) j ps) X.env)] := by rfl) : PA1 X [.Constant (.int i) j ps] (tCons (tC (.int i)) tNil) := by
  refine ⟨fun p0 pn s σ H Q J h => ?_⟩
  rw [hs]
  refine Calls.spliced_cons (wpAny_Constant_int (pos := ps) (k := j) ?_)
  refine Calls.spliced_nil ?_
  exact ⟨by show 1 ≤ s.toks + 1; omega, [.int i], H, J.tok _, .cons ⟨_, rfl⟩ .nil, h⟩
theorem pa1_cons {e : Expr} {es : List Expr} {te : TE} {t : TA} (ha : PE X e te) (hr : PA1 X es t) (hs : starEach (e :: es) X.env = (false, eval e X.env) :: starEach es X.env := by rfl) : PA1 X (e :: es) (tCons te t) := by
  refine ⟨fun p0 pn s σ H Q J h => ?_⟩
  rw [hs]
  refine Calls.spliced_cons (thn (ha.run pn s σ H _ J h) fun u s1 g => ?_)
  obtain ⟨x, H1, J1, rx, q⟩ := g
  refine thn (hr.go p0 pn s1 σ H1 _ J1 q) fun us s2 g => ?_
  obtain ⟨ht, xs, H2, J2, r2, q2⟩ := g
  exact ⟨ht, x :: xs, H2, J2, .cons rx r2, q2⟩
structure PS1 (X : Cx) (st : Stmt) (t : TS) : Prop where
  go : ∀ (pn : List (Addr × Obj)) (s : Shared) (σ : L2.St) (H : Hp) (D : Ends), Inv X pn σ H s → t D σ H → wpAny (model X.prog X.w) X.A (exec st X.env) (fun fl s' => 1 ≤ s'.toks ∧ SP X pn D fl s') X.xe s
theorem ps1_call {CX : CXT} {k i : Nat} {f : Addr} {fd : FuncData} {ps : List Str} {sp : Sp} {dvs : List V} {ds : List Value} {E : XK} {x y : Str} {p p2 pos pos2 : Pos} {e : Expr} {es : List Expr} {t : TA}
    (hN : X.N.Nodup) (hi : X.N[i]? = some y) (hy : Loc X.env.scope y) (F : FnOk X.prog X.w X.K X.mg X.base CX k f fd ps sp) (hr : Room k X.A) (hg : Gl X x) (hm : X.mg x = some (.ref f)) (hk : PySem.W.keepIn X.K (.ref f) = true) (hb : Binds X.K fd ps ds) (hd : Vals dvs ds) (hx : Passes CX X E)
    (ha : PA1 X (e :: es) t) (hdb : (x == ("__debug__" : Str)) = false := by decide) (he : starEach (e :: es) X.env = (false, eval e X.env) :: starEach es X.env := by rfl) (hpl : (backTo pos (starEach es X.env)).any (·.1) = false := by rfl)
    (hs : swapsWith (.Call (.Name x p) (e :: es) [] pos) (some (.Name y p2)) pos2.line X.env = pure false := by rfl) (hf : X.fn y = true ∨ X.env.scope.names.lookup y = some .local := by first | exact .inl rfl | exact .inr rfl | assumption) :
    PS1 X (.Assign [.Name y p2] (.Call (.Name x p) (e :: es) [] pos) pos2) (tAsg (tCall sp dvs E t) (gName i)) := by
  refine ⟨fun pn s σ H D J h => ?_⟩
  refine wpAny_Assign_Name (Q := fun fl s' => 1 ≤ s'.toks ∧ SP X pn D fl s') (wpAny_mono (Q := fun v s2 => 1 ≤ s2.toks ∧ EP X pn σ (fun v H1 => D.nx (σ.set i (some v)) H1) v s2) (wpAny_Call_Name_kw (ld_glob J hg hm ?_ hdb)) (fun v s2 g => ?_) fun _ _ z => z) hs
  · refine PySem.W.callWith_K (h₀ := X.base) J.ok.mod.kin hk (thn (ha.go pos pn s σ H _ J h) fun us s1 g => ?_) he hpl
    obtain ⟨ht, vs, H1, J1, r, q⟩ := g
    exact ⟨J1.kIn, wpAny_mono (wpAny_toks_of ht (run_fn F hr hb hd hx J1 r q)) (fun _ _ z => z) fun _ _ z => z.2⟩
  · obtain ⟨ht, v', H1, J1, rv, q⟩ := g
    exact wpAny_mono (wpAny_toks_of ht (store_ok J1 hN hi hy rv (fun s3 J3 => (⟨_, H1, J3, q⟩ : SP X pn D .next s3)) hf)) (fun _ _ z => z) fun _ _ z => z.2
/-- the first statement gives out a token -/
theorem pss_tok {st : Stmt} {rest : List Stmt} {t u : TS} (h1 : PS1 X st t) (h2 : PSsT X rest u) : PSs X (st :: rest) (tSeq t u) := by
  refine ⟨fun pn s σ H D J h => ?_⟩
  refine wpAny_execs_cons (thn (h1.go pn s σ H { D with nx := u D } J h) fun fl s1 g => ?_)
  obtain ⟨ht, g⟩ := g
  cases fl with
  | ret v => exact g
  | brk => exact g
  | cont => exact g
  | next =>
    obtain ⟨σ1, H1, J1, g⟩ := g
    exact h2 pn s1 σ1 H1 D ht J1 g
theorem pst_setE {i : Nat} {x : Str} {e : Expr} {te : TE} {p2 pos : Pos} (hN : X.N.Nodup) (hi : X.N[i]? = some x) (hx : Loc X.env.scope x) (he : PET X e te) (hs : swapsWith e (some (.Name x p2)) pos.line X.env = pure false := by rfl)
    (hf : X.fn x = true ∨ X.env.scope.names.lookup x = some .local := by first | exact .inl rfl | exact .inr rfl | assumption) : PST X (.Assign [.Name x p2] e pos) (tAsg te (gName i)) := by
  intro pn s σ H D h0 J h
  refine wpAny_Assign_Name (thn (he pn s σ H _ h0 J h) fun v s1 g => ?_) hs
  obtain ⟨y, H1, J1, r1, q1⟩ := g
  exact store_ok J1 hN hi hx r1 (fun s2 J2 => ⟨_, H1, J2, q1⟩) hf
/-- a word between an if and what follows, a token out -/
theorem psst_cut {st : Stmt} {rest : List Stmt} {t u : TS} (h1 : PST X st t) (h2 : PSsT X rest u) : PSsT X (st :: rest) (C8.tCut t u) := by
  intro pn s σ H D h0 J h
  obtain ⟨M, hm, hu⟩ := h
  refine wpAny_execs_cons (wpAny_mono (PySem.wpAny_toks (h1 pn s σ H { D with nx := M } h0 J hm)) (fun fl s1 g => ?_) fun _ _ z => z.2)
  obtain ⟨hk, g⟩ := g
  cases fl with
  | ret v => exact g
  | brk => exact g
  | cont => exact g
  | next =>
    obtain ⟨σ1, H1, J1, g⟩ := g
    exact h2 pn s1 σ1 H1 D (Nat.le_trans h0 hk) J1 (hu σ1 H1 g)
end
end K01
namespace K01
open PySem PySem.Spec PyProof.Rows L2
/-! ### texts times numbers, lists times numbers -/
def rMulS (x y : V) (H : Hp) (Q : VK) : Prop := ∃ z, x = .str z ∧ ∃ n, y = .int n ∧ ∃ L N : Nat, z.length ≤ L ∧ n ≤ (N : Int) ∧ 0 ≤ n ∧ N ≤ 16777216 ∧ L * N ≤ 16777216 ∧ Q (.str (Txt.mul z n)) H
theorem op_mulS {X : Cx} : OpR X (binaryOp .Mult) rMulS := by
  intro pn s σ H x y v u Q J rx ry h
  obtain ⟨z, rfl, n, rfl, L, N, h1, h2, h3, h4, h5, q⟩ := h
  obtain ⟨t, rfl⟩ := rx
  obtain ⟨t', rfl⟩ := ry
  exact SB.mul (mulOk_of L N h1 h2 (by omega) h4 h5) fun tt k => ⟨.str (Txt.mul z n), H, J.tok k, ⟨tt, rfl⟩, q⟩
def rRepL (x y : V) (H : Hp) (Q : VK) : Prop := ∃ l, x = .ref l ∧ ∃ k, y = .int k ∧ ∃ xs, H l = some (.lst xs) ∧ -(2 ^ 63) ≤ k ∧ k < 2 ^ 63 ∧ xs.length * k.toNat ≤ sizeLine ∧ ∀ p, H p = none → Q (.ref p) (L2.upd H p (.lst (List.replicate k.toNat xs).flatten))
theorem op_repL {X : Cx} : OpR X (binaryOp .Mult) rRepL := opR_mono op_rep fun _ _ _ _ ⟨l, e, k, e2, xs, h1, h2, h3, h4, q⟩ => ⟨l, k, xs, e, e2, h1, h2, h3, h4, q⟩
def rCatL (x y : V) (H : Hp) (Q : VK) : Prop := ∃ l, x = .ref l ∧ ∃ b, y = .ref b ∧ ∃ xs, H l = some (.lst xs) ∧ ∃ zs, H b = some (.lst zs) ∧ xs.length + zs.length ≤ sizeLine ∧ ∀ p, H p = none → Q (.ref p) (L2.upd H p (.lst (xs ++ zs)))
theorem op_catL {X : Cx} : OpR X (binaryOp .Add) rCatL := opR_mono op_cat fun _ _ _ _ ⟨l, e, b, e2, xs, h1, zs, h2, h3, q⟩ => ⟨l, b, xs, zs, e, e2, h1, h2, h3, q⟩
theorem mul_le {z : Str} {n : Int} {L N : Nat} (h1 : z.length ≤ L) (h2 : n ≤ (N : Int)) : (Txt.mul z n).length ≤ L * N := len_mul_leN h1 h2
end K01
namespace K01
open PySem PySem.Spec PyProof.Rows L2
local macro_rules | `(tactic| walk_at "rd") => `(tactic| simp only [start1, wipe, isR, isBool, isInt, isStr, isLst, isTup, tAsg, gName, gSub, tVar, tC, tOp, tUn, tTest, tIfS, tRet, tRetN, tDrop, tB, tAnd, tOr, tNot, tAndV, tOrV, tNotV, tIf, tCB, tCons, tNil, tNext, tCall, tBM, tTup, tLst, rI0, rI, rEq, rNe, scal, forR_eq, forR2_eq, forS_eq, forL_eq, lcL_eq, lcR_eq, lcS_eq, rLenX, rLenS, rMulS, rRepL, rCatL, tPart, tNoPart, CwR.tReplC, rAllK, rInSg, rNinSg, sgn_inj, rAddS, rInSt, tChain, tM1, tM0, rSplitN, rJoinN, exists_eq, rIntI, rIntB, rIntS, rStrI, rAbs, rOrd, rMin, rMax, rIxL, rIxX, rSetL, rAppend, rIxS, rSlS, rSlL, tSl, List.map_cons, List.map_nil, List.replicate_succ, List.replicate_zero, List.length_cons, List.length_nil, Nat.reduceSub, Nat.reduceAdd, Nat.zero_add, Nat.sub_self, List.getElem?_cons_zero, List.getElem?_cons_succ, List.set_cons_zero, List.set_cons_succ, List.append_nil, List.nil_append, List.cons_append, Option.some.injEq, not_true_eq_false, reduceCtorEq, exists_eq_left', exists_eq_left, exists_eq', exists_and_left, exists_and_right, V.int.injEq, V.str.injEq, V.bl.injEq, V.ref.injEq, List.cons.injEq, and_true, true_and, and_assoc, decide_eq_true_eq, Bool.not_eq_true', decide_eq_false_iff_not, ite_true, ite_false, if_true, if_false, Bool.not_true, Bool.not_false, Bool.false_eq_true, eq_self_iff_true, reduceIte, ne_eq, Int.reduceEq, not_false_eq_true])
local macro_rules | `(tactic| walk_at "rt") => `(tactic| try walk_at "rd")
local macro_rules | `(tactic| walk_at "st") => `(tactic| (walk_at "rt"; refine r_seq ?_; walk_at "rt"))
local macro_rules | `(tactic| walk_at "hp") => `(tactic| first | assumption | exact upd_same | (rw [upd_ne (by assumption)]; walk_at "hp"))
local macro_rules | `(tactic| walk_at "ex1") => `(tactic| ((with_reducible refine Exists.intro ?w (And.intro ?hx ?_)); (case hx => first | exact sq_of (by walk_at "hp") | exact .inl (sq_of (by walk_at "hp")) | exact rfl | (show _ = some (HO.lst _); walk_at "hp"))))
local macro_rules | `(tactic| walk_at "ex") => `(tactic| repeat (first | walk_at "ex1" | walk_at "rd"))
/-! ### data -/
inductive Dat where
  | non | bl (b : Bool) | int (i : Int) | str (s : Str) | lst (l : List Dat) | tup (l : List Dat)
mutual
def At (H : Hp) (A : Addr → Prop) : Dat → V → Prop
  | .non, v => v = .non
  | .bl b, v => v = .bl b
  | .int i, v => v = .int i
  | .str s, v => v = .str s
  | .lst l, v => ∃ a xs, v = .ref a ∧ A a ∧ H a = some (.lst xs) ∧ xs.length ≤ 1000000 ∧ AtL H A l xs
  | .tup l, v => ∃ a xs, v = .ref a ∧ A a ∧ H a = some (.tup xs) ∧ xs.length ≤ 1000000 ∧ AtL H A l xs
def AtL (H : Hp) (A : Addr → Prop) : List Dat → List V → Prop
  | [], xs => xs = []
  | d :: l, xs => ∃ v r, xs = v :: r ∧ At H A d v ∧ AtL H A l r
end
mutual
def Dat.dep : Dat → Nat
  | .lst l => depL l + 1
  | .tup l => depL l + 1
  | _ => 0
def depL : List Dat → Nat
  | [] => 0
  | d :: l => max d.dep (depL l)
end
mutual
def same : Dat → Dat → Bool
  | .non, .non => true
  | .bl a, .bl b => decide (a = b)
  | .int a, .int b => decide (a = b)
  | .str a, .str b => decide (a = b)
  | .lst l, .lst m => sameL l m
  | .tup l, .tup m => sameL l m
  | _, _ => false
def sameL : List Dat → List Dat → Bool
  | [], [] => true
  | d :: l, e :: m => same d e && sameL l m
  | _, _ => false
end
mutual
theorem same_refl : ∀ d : Dat, same d d = true
  | .non => rfl
  | .bl _ => by simp [same]
  | .int _ => by simp [same]
  | .str _ => by simp [same]
  | .lst l => by rw [same]; exact sameL_refl l
  | .tup l => by rw [same]; exact sameL_refl l
theorem sameL_refl : ∀ l : List Dat, sameL l l = true
  | [] => rfl
  | d :: l => by rw [sameL, same_refl d, sameL_refl l]; rfl
end
mutual
theorem At.mono {H H' : Hp} {A A' : Addr → Prop} (hA : ∀ p, A p → A' p) (k : ∀ p o, A p → H p = some o → H' p = some o) : ∀ (d : Dat) (v : V), At H A d v → At H' A' d v
  | .non, _, h => h
  | .bl _, _, h => h
  | .int _, _, h => h
  | .str _, _, h => h
  | .lst l, _, ⟨a, xs, e, ha, hx, hl, hr⟩ => ⟨a, xs, e, hA a ha, k a _ ha hx, hl, AtL.mono hA k l xs hr⟩
  | .tup l, _, ⟨a, xs, e, ha, hx, hl, hr⟩ => ⟨a, xs, e, hA a ha, k a _ ha hx, hl, AtL.mono hA k l xs hr⟩
theorem AtL.mono {H H' : Hp} {A A' : Addr → Prop} (hA : ∀ p, A p → A' p) (k : ∀ p o, A p → H p = some o → H' p = some o) : ∀ (l : List Dat) (xs : List V), AtL H A l xs → AtL H' A' l xs
  | [], _, h => h
  | d :: l, _, ⟨v, r, e, h1, h2⟩ => ⟨v, r, e, At.mono hA k d v h1, AtL.mono hA k l r h2⟩
end
theorem AtL.length {H : Hp} {A : Addr → Prop} : ∀ (l : List Dat) (xs : List V), AtL H A l xs → xs.length = l.length
  | [], _, h => by rw [show _ = [] from h]; rfl
  | d :: l, _, ⟨v, r, e, h1, h2⟩ => by rw [e, List.length_cons, List.length_cons, AtL.length l r h2]
theorem AtL.get {H : Hp} {A : Addr → Prop} : ∀ (l : List Dat) (xs : List V) (i : Nat) (d : Dat), AtL H A l xs → l[i]? = some d → ∃ v, xs[i]? = some v ∧ At H A d v
  | [], _, _, _, _, h => by simp at h
  | d :: l, _, 0, e, ⟨v, r, ex, h1, h2⟩, h => by
    subst ex
    cases h
    exact ⟨v, rfl, h1⟩
  | d :: l, _, i + 1, e, ⟨v, r, ex, h1, h2⟩, h => by
    subst ex
    exact AtL.get l r i e h2 h
theorem AtL.snoc {H : Hp} {A : Addr → Prop} : ∀ (l : List Dat) (xs : List V) (d : Dat) (v : V), AtL H A l xs → At H A d v → AtL H A (l ++ [d]) (xs ++ [v])
  | [], _, d, v, h, h2 => by rw [show _ = [] from h]; exact ⟨v, [], rfl, h2, rfl⟩
  | e :: l, _, d, v, ⟨w, r, ex, h1, h2⟩, h3 => by rw [ex]; exact ⟨w, r ++ [v], rfl, h1, AtL.snoc l r d v h2 h3⟩
theorem dep_get : ∀ (l : List Dat) (i : Nat) (d : Dat), l[i]? = some d → d.dep ≤ depL l
  | [], _, _, h => by simp at h
  | e :: l, 0, d, h => by cases h; rw [depL]; exact Nat.le_max_left _ _
  | e :: l, i + 1, d, h => by rw [depL]; exact Nat.le_trans (dep_get l i d h) (Nat.le_max_right _ _)
/-! ### isinstance of data -/
def isBool : Dat → Bool | .bl _ => true | _ => false
def isInt : Dat → Bool | .bl _ => true | .int _ => true | _ => false
def isStr : Dat → Bool | .str _ => true | _ => false
def isLst : Dat → Bool | .lst _ => true | _ => false
def isTup : Dat → Bool | .tup _ => true | _ => false
def tyOf : Dat → String | .non => "NoneType" | .bl _ => "bool" | .int _ => "int" | .str _ => "str" | .lst _ => "list" | .tup _ => "tuple"
theorem tyx {K : PySem.W.Frag} {H : Hp} {A : Addr → Prop} : ∀ {d : Dat} {v : V}, At H A d v → TyX K H v (.type (tyOf d))
  | .non, _, h => by rw [show _ = V.non from h]; exact .base .non
  | .bl b, _, h => by rw [show _ = V.bl b from h]; exact .base (.bl b)
  | .int b, _, h => by rw [show _ = V.int b from h]; exact .base (.int b)
  | .str b, _, h => by rw [show _ = V.str b from h]; exact .base (.str b)
  | .lst l, _, ⟨a, xs, e, _, hx, _⟩ => by subst e; exact .base (.lst hx)
  | .tup l, _, ⟨a, xs, e, _, hx, _⟩ => by subst e; exact .base (.tup hx)
def isR (T : String) (p : Dat → Bool) : List V → Hp → VK → Prop := fun xs H Q => ∃ x, xs = [x, .ty T] ∧ ∃ A d, At H A d x ∧ Q (.bl (p d)) H
theorem call_is {X : Cx} (T : String) (p : Dat → Bool) (h : ∀ d, kitB (tyOf d) T = some (p d)) : CallR X (.builtin "isinstance") (isR T p) := callR_mono call_isi fun xs H Q ⟨x, e, A, d, ha, q⟩ =>
  ⟨x, .ty T, _, _, p d, e, .ty T, tyx ha, kit_ty (h d), q⟩
theorem call_is_bool {X : Cx} : CallR X (.builtin "isinstance") (isR "bool" isBool) := call_is _ _ fun d => by cases d <;> (simp only [tyOf, isBool]; decide +kernel)
theorem call_is_int {X : Cx} : CallR X (.builtin "isinstance") (isR "int" isInt) := call_is _ _ fun d => by cases d <;> (simp only [tyOf, isInt]; decide +kernel)
theorem call_is_str {X : Cx} : CallR X (.builtin "isinstance") (isR "str" isStr) := call_is _ _ fun d => by cases d <;> (simp only [tyOf, isStr]; decide +kernel)
theorem call_is_dict {X : Cx} : CallR X (.builtin "isinstance") (isR "dict" fun _ => false) := call_is _ _ fun d => by cases d <;> (simp only [tyOf]; decide +kernel)
theorem call_is_list {X : Cx} : CallR X (.builtin "isinstance") (isR "list" isLst) := call_is _ _ fun d => by cases d <;> (simp only [tyOf, isLst]; decide +kernel)
theorem call_is_tuple {X : Cx} : CallR X (.builtin "isinstance") (isR "tuple" isTup) := call_is _ _ fun d => by cases d <;> (simp only [tyOf, isTup]; decide +kernel)
end K01
namespace K01
open PySem PySem.Spec PyProof.Rows L2 TL
/-! ### texts: cutting and joining at one sign -/
theorem pre1 (s c : Nat) (r : List Nat) : pre [s] (c :: r) = (c == s) := by
  show ((c :: r).take 1 == [s]) = (c == s)
  simp
theorem spl_ne (s : Nat) : ∀ (l acc : List Nat), spl [s] 0 acc l ≠ []
  | [], acc => by rw [spl_nil]; simp
  | c :: r, acc => by
    by_cases h : pre [s] (c :: r) = true
    · rw [spl_hit h]; simp
    · rw [spl_miss (by simpa using h)]; exact spl_ne s r _
theorem join_spl (s : Nat) : ∀ (l acc : List Nat), joinL [s] (spl [s] 0 acc l) = acc ++ l
  | [], acc => by rw [spl_nil, List.append_nil]; rfl
  | c :: r, acc => by
    by_cases h : pre [s] (c :: r) = true
    · have e : c = s := by rw [pre1] at h; simpa using h
      rw [spl_hit h]
      have ih := join_spl s r []
      have hne := spl_ne s r []
      show joinL [s] (acc :: spl [s] 0 [] r) = acc ++ c :: r
      cases e2 : spl [s] 0 [] r with
      | nil => exact absurd e2 hne
      | cons q t =>
        rw [e2] at ih
        show acc ++ ([s] ++ joinL [s] (q :: t)) = acc ++ c :: r
        rw [ih, e]
        rfl
    · rw [spl_miss (by simpa using h), join_spl s r, List.append_assoc]
      rfl
theorem spl_free (s : Nat) : ∀ (l acc : List Nat), s ∉ acc → ∀ p ∈ spl [s] 0 acc l, s ∉ p
  | [], acc, h, p, hp => by rw [spl_nil] at hp; rw [List.mem_singleton.mp hp]; exact h
  | c :: r, acc, h, p, hp => by
    by_cases hc : pre [s] (c :: r) = true
    · rw [spl_hit hc] at hp
      rcases List.mem_cons.mp hp with e | hp
      · rw [e]; exact h
      · exact spl_free s r [] (by simp) p hp
    · rw [spl_miss (by simpa using hc)] at hp
      refine spl_free s r _ (fun hm => ?_) p hp
      rcases List.mem_append.mp hm with hm | hm
      · exact h hm
      · rw [pre1] at hc
        exact hc (by rw [List.mem_singleton.mp hm]; simp)
theorem spl_sub (s : Nat) : ∀ (l acc : List Nat) (t : Nat), t ∉ l → t ∉ acc → ∀ p ∈ spl [s] 0 acc l, t ∉ p
  | [], acc, t, _, h, p, hp => by rw [spl_nil] at hp; rw [List.mem_singleton.mp hp]; exact h
  | c :: r, acc, t, hl, h, p, hp => by
    have hr : t ∉ r := fun z => hl (List.mem_cons_of_mem _ z)
    by_cases hc : pre [s] (c :: r) = true
    · rw [spl_hit hc] at hp
      rcases List.mem_cons.mp hp with e | hp
      · rw [e]; exact h
      · exact spl_sub s r [] t hr (by simp) p hp
    · rw [spl_miss (by simpa using hc)] at hp
      refine spl_sub s r _ t hr (fun hm => ?_) p hp
      rcases List.mem_append.mp hm with hm | hm
      · exact h hm
      · exact hl (by rw [List.mem_singleton.mp hm]; exact List.mem_cons_self)
theorem joinL_len (s : Nat) : ∀ (ps : List (List Nat)), ps ≠ [] → (joinL [s] ps).length + 1 = (ps.map (·.length)).sum + ps.length
  | [], h => absurd rfl h
  | [p], _ => by
    show p.length + 1 = p.length + 0 + 1
    omega
  | p :: q :: r, _ => by
    have ih := joinL_len s (q :: r) (by simp)
    show (p ++ ([s] ++ joinL [s] (q :: r))).length + 1 = _
    rw [List.map_cons, List.sum_cons, List.length_append, List.length_append, List.length_cons (as := q :: r)]
    simp only [List.length_cons, List.length_nil] at ih ⊢
    omega
def nl : Str := Str.ofString "\n"
def sp : Str := Str.ofString " "
theorem tl_nl : tl nl = [10] := by decide +kernel
theorem tl_sp : tl sp = [32] := by decide +kernel
theorem kind_nl : nl.cps.all (· < 256) = true := by decide +kernel
theorem kind_sp : sp.cps.all (· < 256) = true := by decide +kernel
section
variable {y : Str} {s : Nat}
theorem split_tl (ey : tl y = [s]) (hk : y.cps.all (· < 256) = true) (x : Str) : (Txt.split x y).map tl = spl [s] 0 [] (tl x) := by
  rw [split_spl _ y (by rw [ey]; simp) (kind_ok hk), ey]
theorem split_ne (ey : tl y = [s]) (hk : y.cps.all (· < 256) = true) (x : Str) : Txt.split x y ≠ [] := fun e => by
  have h := split_tl ey hk x
  rw [e] at h
  exact spl_ne s _ _ h.symm
theorem join_split (ey : tl y = [s]) (hk : y.cps.all (· < 256) = true) (x : Str) : Txt.join y (Txt.split x y) = x := by
  refine ext_tl ?_
  rw [join_eq, tl_join, ey, split_tl ey hk, join_spl, List.nil_append]
theorem split_free (ey : tl y = [s]) (hk : y.cps.all (· < 256) = true) (x : Str) : ∀ p ∈ Txt.split x y, s ∉ tl p := fun p hp =>
  spl_free s (tl x) [] (by simp) (tl p) (by rw [← split_tl ey hk x]; exact List.mem_map_of_mem hp)
theorem split_sub (ey : tl y = [s]) (hk : y.cps.all (· < 256) = true) (x : Str) {t : Nat} (h : t ∉ tl x) : ∀ p ∈ Txt.split x y, t ∉ tl p := fun p hp =>
  spl_sub s (tl x) [] t h (by simp) (tl p) (by rw [← split_tl ey hk x]; exact List.mem_map_of_mem hp)
theorem join_len (ey : tl y = [s]) (ps : List Str) (h : ps ≠ []) : (Txt.join y ps).length + 1 = (ps.map (·.length)).sum + ps.length := by
  rw [len_tl, join_eq, tl_join, ey, joinL_len s _ (by simpa using h), List.map_map, List.length_map]
  have e : (ps.map (List.length ∘ tl)) = ps.map (·.length) := List.map_congr_left fun p _ => (len_tl p).symm
  rw [e]
theorem split_len (ey : tl y = [s]) (hk : y.cps.all (· < 256) = true) (x : Str) : ((Txt.split x y).map (·.length)).sum + (Txt.split x y).length = x.length + 1 := by
  rw [← join_len ey _ (split_ne ey hk x), join_split ey hk]
end
/-! ### lines of words -/
abbrev Lines := List (List Str)
def splitW (z : Str) : Lines := (Txt.split z nl).map fun l => Txt.split l sp
def joinW (ls : Lines) : Str := Txt.join nl (ls.map fun ws => Txt.join sp ws)
def plainW (ls : Lines) : Prop := ls ≠ [] ∧ ∀ ws ∈ ls, ws ≠ [] ∧ ∀ x ∈ ws, 32 ∉ tl x ∧ 10 ∉ tl x
theorem splitW_plain (z : Str) : plainW (splitW z) := by
  refine ⟨fun e => split_ne tl_nl kind_nl z (List.map_eq_nil_iff.mp e), fun ws hw => ?_⟩
  obtain ⟨l, hl, rfl⟩ := List.mem_map.mp hw
  exact ⟨split_ne tl_sp kind_sp l, fun x hx => ⟨split_free tl_sp kind_sp l x hx, split_sub tl_sp kind_sp l (split_free tl_nl kind_nl z l hl) x hx⟩⟩
theorem joinW_splitW (z : Str) : joinW (splitW z) = z := by
  show Txt.join nl (((Txt.split z nl).map fun l => Txt.split l sp).map fun ws => Txt.join sp ws) = z
  rw [List.map_map]
  have e : ((Txt.split z nl).map ((fun ws => Txt.join sp ws) ∘ fun l => Txt.split l sp)) = Txt.split z nl := by
    refine (List.map_congr_left fun l _ => ?_).trans (List.map_id _)
    exact join_split tl_sp kind_sp l
  rw [e, join_split tl_nl kind_nl]
theorem mem_joinL {s t : Nat} : ∀ {ps : List (List Nat)}, t ∈ joinL [s] ps → t = s ∨ ∃ p ∈ ps, t ∈ p
  | [], h => by cases h
  | [p], h => .inr ⟨p, List.mem_cons_self, h⟩
  | p :: q :: r, h => by
    rcases List.mem_append.mp (show t ∈ p ++ ([s] ++ joinL [s] (q :: r)) from h) with h | h
    · exact .inr ⟨p, List.mem_cons_self, h⟩
    · rcases List.mem_append.mp h with h | h
      · exact .inl (List.mem_singleton.mp h)
      · rcases mem_joinL h with h | ⟨p', hp, h⟩
        · exact .inl h
        · exact .inr ⟨p', List.mem_cons_of_mem _ hp, h⟩
theorem splitW_joinW {ls : Lines} (h : plainW ls) : splitW (joinW ls) = ls := by
  show (Txt.split (Txt.join nl (ls.map fun ws => Txt.join sp ws)) nl).map (fun l => Txt.split l sp) = ls
  rw [split_join tl_nl kind_nl (by simpa using h.1) fun p hp => ?_, List.map_map]
  · refine (List.map_congr_left fun ws hw => ?_).trans (List.map_id _)
    exact split_join tl_sp kind_sp (h.2 ws hw).1 fun p hp => ((h.2 ws hw).2 p hp).1
  · obtain ⟨ws, hw, rfl⟩ := List.mem_map.mp hp
    intro hm
    rw [join_eq, tl_join, tl_sp] at hm
    rcases mem_joinL hm with e | ⟨p, hp, hm⟩
    · cases e
    · obtain ⟨x, hx, rfl⟩ := List.mem_map.mp hp
      exact ((h.2 ws hw).2 x hx).2 hm
/-- how much there is -/
def totW (ls : Lines) : Nat := (ls.map fun ws => (ws.map (·.length)).sum + ws.length + 1).sum
theorem sum_le_of {α : Type} (f : α → Nat) : ∀ (l : List α) (x : α), x ∈ l → f x ≤ (l.map f).sum
  | [], _, h => by cases h
  | a :: l, x, h => by
    rw [List.map_cons, List.sum_cons]
    rcases List.mem_cons.mp h with e | h
    · rw [e]; omega
    · have := sum_le_of f l x h
      omega
theorem length_le_sum {α : Type} (f : α → Nat) (k : ∀ x, 1 ≤ f x) : ∀ l : List α, l.length ≤ (l.map f).sum
  | [] => Nat.le_refl _
  | a :: l => by
    rw [List.map_cons, List.sum_cons, List.length_cons]
    have := length_le_sum f k l
    have := k a
    omega
theorem totW_len (ls : Lines) : ls.length ≤ totW ls := length_le_sum _ (fun _ => by omega) ls
theorem totW_row {ls : Lines} {ws : List Str} (h : ws ∈ ls) : (ws.map (·.length)).sum + ws.length + 1 ≤ totW ls := sum_le_of (fun ws => (ws.map (·.length)).sum + ws.length + 1) ls ws h
theorem joinW_le (ls : Lines) : ((ls.map fun ws => Txt.join sp ws).map (·.length)).sum + ls.length ≤ totW ls := by
  induction ls with
  | nil => exact Nat.le_refl _
  | cons ws r ih =>
    show ((Txt.join sp ws).length + ((r.map fun ws => Txt.join sp ws).map (·.length)).sum) + (r.length + 1) ≤ ((ws.map (·.length)).sum + ws.length + 1) + totW r
    have h : (Txt.join sp ws).length ≤ (ws.map (·.length)).sum + ws.length := by
      cases ws with
      | nil => exact Nat.le_of_eq (by rw [join_eq]; rfl)
      | cons x t =>
        have := join_len tl_sp (x :: t) (by simp)
        omega
    omega
theorem splitW_tot (z : Str) : totW (splitW z) ≤ 3 * z.length + 3 := by
  have h1 := split_len tl_nl kind_nl z
  have h2 : ∀ ls : List Str, totW (ls.map fun l => Txt.split l sp) = (ls.map (·.length)).sum + 2 * ls.length := by
    intro ls
    induction ls with
    | nil => rfl
    | cons l r ih =>
      have h3 := split_len tl_sp kind_sp l
      show ((Txt.split l sp).map (·.length)).sum + (Txt.split l sp).length + 1 + totW (r.map fun l => Txt.split l sp) = (l.length + (r.map (·.length)).sum) + 2 * (r.length + 1)
      omega
  show totW ((Txt.split z nl).map fun l => Txt.split l sp) ≤ _
  rw [h2]
  omega
end K01
namespace K01
open PySem PySem.Spec PyProof.Rows L2
local macro_rules | `(tactic| walk_at "rd") => `(tactic| simp only [start1, wipe, isR, isBool, isInt, isStr, isLst, isTup, tAsg, gName, gSub, tVar, tC, tOp, tUn, tTest, tIfS, tRet, tRetN, tDrop, tB, tAnd, tOr, tNot, tAndV, tOrV, tNotV, tIf, tCB, tCons, tNil, tNext, tCall, tBM, tTup, tLst, rI0, rI, rEq, rNe, scal, forR_eq, forR2_eq, forS_eq, forL_eq, lcL_eq, lcR_eq, lcS_eq, rLenX, rLenS, rMulS, rRepL, rCatL, tPart, tNoPart, CwR.tReplC, rAllK, rInSg, rNinSg, sgn_inj, rAddS, rInSt, tChain, tM1, tM0, rSplitN, rJoinN, exists_eq, rIntI, rIntB, rIntS, rStrI, rAbs, rOrd, rMin, rMax, rIxL, rIxX, rSetL, rAppend, rIxS, rSlS, rSlL, tSl, List.map_cons, List.map_nil, List.replicate_succ, List.replicate_zero, List.length_cons, List.length_nil, Nat.reduceSub, Nat.reduceAdd, Nat.zero_add, Nat.sub_self, List.getElem?_cons_zero, List.getElem?_cons_succ, List.set_cons_zero, List.set_cons_succ, List.append_nil, List.nil_append, List.cons_append, Option.some.injEq, not_true_eq_false, reduceCtorEq, exists_eq_left', exists_eq_left, exists_eq', exists_and_left, exists_and_right, V.int.injEq, V.str.injEq, V.bl.injEq, V.ref.injEq, List.cons.injEq, and_true, true_and, and_assoc, decide_eq_true_eq, Bool.not_eq_true', decide_eq_false_iff_not, ite_true, ite_false, if_true, if_false, Bool.not_true, Bool.not_false, Bool.false_eq_true, eq_self_iff_true, reduceIte, ne_eq, Int.reduceEq, not_false_eq_true])
local macro_rules | `(tactic| walk_at "rt") => `(tactic| try walk_at "rd")
local macro_rules | `(tactic| walk_at "st") => `(tactic| (walk_at "rt"; refine r_seq ?_; walk_at "rt"))
local macro_rules | `(tactic| walk_at "hp") => `(tactic| first | assumption | exact upd_same | (rw [upd_ne (by assumption)]; walk_at "hp"))
local macro_rules | `(tactic| walk_at "ex1") => `(tactic| ((with_reducible refine Exists.intro ?w (And.intro ?hx ?_)); (case hx => first | exact sq_of (by walk_at "hp") | exact .inl (sq_of (by walk_at "hp")) | exact rfl | (show _ = some (HO.lst _); walk_at "hp"))))
local macro_rules | `(tactic| walk_at "ex") => `(tactic| repeat (first | walk_at "ex1" | walk_at "rd"))
abbrev s_mixed : Stmt := topS 54
theorem sc_mixed : FnScope ["number", "turn", "many", "one", "two", "three", "value"] ["number", "turn", "many"] (defScope s_mixed) := ⟨rfl, rfl, rfl, by decide +kernel, rfl, by decide +kernel, by decide +kernel⟩
abbrev s_take : Stmt := topS 55
theorem sc_take : FnScope ["store", "many", "value", "number", "cell"] ["store", "many"] (defScope s_take) := ⟨rfl, rfl, rfl, by decide +kernel, rfl, by decide +kernel, by decide +kernel⟩
abbrev s_pick : Stmt := topS 56
theorem sc_pick : FnScope ["store", "row"] ["store", "row"] (defScope s_pick) := ⟨rfl, rfl, rfl, by decide +kernel, rfl, by decide +kernel, by decide +kernel⟩
abbrev s_chance : Stmt := topS 57
theorem sc_chance : FnScope ["store", "many"] ["store", "many"] (defScope s_chance) := ⟨rfl, rfl, rfl, by decide +kernel, rfl, by decide +kernel, by decide +kernel⟩
abbrev s_number : Stmt := topS 58
theorem sc_number : FnScope ["store", "low", "high", "kind"] ["store", "low", "high"] (defScope s_number) := ⟨rfl, rfl, rfl, by decide +kernel, rfl, by decide +kernel, by decide +kernel⟩
abbrev s_size : Stmt := topS 59
theorem sc_size : FnScope ["store", "low", "high", "kind"] ["store", "low", "high"] (defScope s_size) := ⟨rfl, rfl, rfl, by decide +kernel, rfl, by decide +kernel, by decide +kernel⟩
/-! ### the store that draws -/
structure StoreAt (H : Hp) (a c : Addr) : Prop where
  ex : ∃ (cells : List Int) (pos val turn seed : Int), H a = some (.lst [.ref c, .int pos, .int val, .int turn, .int seed]) ∧ H c = some (.lst (cells.map V.int)) ∧ 0 ≤ pos ∧ 0 ≤ val
  ne : c ≠ a
/-- what a draw leaves -/
def Drawn (H : Hp) (a c : Addr) (R : V → Prop) (Q : VK) : Prop := ∀ v H', StoreAt H' a c → But a H H' → R v → Q v H'
def spMixed : Sp := fun vs H Q _ => ∃ (n t m : Int), vs = [.int n, .int t, .int m] ∧ 2 ≤ m ∧ ∀ r : Int, 0 ≤ r → r < m → Q (.int r) H
/-- a number below many -/
def Below (m : Int) (v : V) : Prop := ∃ r : Int, v = .int r ∧ 0 ≤ r ∧ (r < m ∨ r = 0)
def spTake : Sp := fun vs H Q _ => ∃ (a c : Addr) (m : Int), vs = [.ref a, .int m] ∧ StoreAt H a c ∧ m ≤ 2 ^ 70 ∧ Drawn H a c (Below m) Q
theorem fm {x M y : Int} (hM : 0 < M) (e : x.fmod M = y) : 0 ≤ y ∧ y < M := by
  rw [← e, Int.fmod_eq_emod_of_nonneg _ (by omega)]
  exact ⟨Int.emod_nonneg _ (by omega), Int.emod_lt_of_pos _ hM⟩
theorem small_div {m : Int} (h2 : 2 ≤ m) (h : m ≤ 2 ^ 70) (x : Int) : CDivW x m := wide_div (b := 71) (by omega) (by omega) (by decide) (by decide)
section
variable {P : Program} {w : World} {K : PySem.W.Frag} {mg : Str → Option Value} {base : Heap}
theorem ok_mixed {f : Addr} {fd : FuncData} (B : Bi mg) (D : Dn K mg "_law_mixed" s_mixed ["number", "turn", "many"] f fd) : FnOk P w K mg base CX0 1 f fd ["number", "turn", "many"] spMixed := by
  refine D.F.ok sc_mixed (fun vs H Q E h => ?_) (fun cdv A outer s H vs Q E hr h => ?_)
  · obtain ⟨n, t, m, rfl, _⟩ := h
    rfl
  · obtain ⟨n, t, m, rfl, hm, q⟩ := h
    refine ⟨_, (pss_cons (ps_set (i := 3) sc_mixed.nd rfl (.inl rfl) (pe_op op_modN (pe_callTy call_intI (by rfl) B.int_ (by decide +kernel) (pa_cons (pe_op op_add (pe_op op_add (pe_op op_mul (pv 0) pe_int) (pe_op op_mul (pv 1) pe_int)) pe_int) pa_nil)) pe_int))
      (pss_cons (ps_set (i := 4) sc_mixed.nd rfl (.inl rfl) (pe_op op_modN (pe_callTy call_intI (by rfl) B.int_ (by decide +kernel) (pa_cons (pe_op op_add (pe_op op_add (pe_op op_mul (pv 3) (pv 3)) (pv 1)) pe_int) pa_nil)) pe_int))
      (pss_cons (ps_set (i := 5) sc_mixed.nd rfl (.inl rfl) (pe_op op_modN (pe_callTy call_intI (by rfl) B.int_ (by decide +kernel) (pa_cons (pe_op op_add (pe_op op_mul (pv 4) (pv 4)) (pv 3)) pa_nil)) pe_int))
      (pss_cons (ps_set (i := 6) sc_mixed.nd rfl (.inl rfl) (pe_op op_fdivW (pv 5) pe_int))
      (C8.pss_cut (ps_if (pt_cmpR op_gt (pv 2) pe_int (nomark _)) (pss_one (ps_set (i := 6) sc_mixed.nd rfl (.inl rfl) (pe_op op_add (pe_op op_mul (pv 6) pe_int) (pe_op op_modN (pe_callTy call_intI (by rfl) B.int_ (by decide +kernel) (pa_cons (pe_op op_add (pe_op op_mul (pv 5) (pv 5)) (pv 4)) pa_nil)) pe_int)))) pss_nil)
      (pss_one (ps_ret (pe_op op_modN (pe_callTy call_intI (by rfl) B.int_ (by decide +kernel) (pa_cons (pv 6) pa_nil)) (pv 2))))))))), ?_⟩
    walk_at "st"
    refine ⟨.inr ⟨by decide, by decide⟩, .inr ⟨by decide, by decide⟩, ?_⟩
    generalize e1 : Int.fmod _ _ = one
    obtain ⟨a1, b1⟩ := fm (by decide) e1
    walk_at "st"
    refine ⟨.inl ⟨by omega, by omega⟩, ?_⟩
    generalize e2 : Int.fmod _ _ = two
    obtain ⟨a2, b2⟩ := fm (by decide) e2
    walk_at "st"
    refine ⟨.inl ⟨by omega, by omega⟩, ?_⟩
    generalize e3 : Int.fmod _ _ = three
    obtain ⟨a3, b3⟩ := fm (by decide) e3
    walk_at "st"
    refine ⟨⟨by decide, by decide⟩, ?_⟩
    refine r_cut (fun σ' H' => (∃ v : Int, σ' = [some (.int n), some (.int t), some (.int m), some (.int one), some (.int two), some (.int three), some (.int v)]) ∧ H' = H) (fun N k => ?_) ?_
    · walk_at "rt"
      exact ite2 (fun _ => ⟨.inr ⟨by decide, by decide⟩, .inl ⟨by omega, by omega⟩, k _ _ ⟨⟨_, rfl⟩, rfl⟩⟩) (fun _ => k _ _ ⟨⟨_, rfl⟩, rfl⟩)
    · rintro σ' H' ⟨⟨v, rfl⟩, rfl⟩
      walk_at "rt"
      generalize e4 : Int.fmod _ _ = r
      obtain ⟨a4, b4⟩ := fm (by omega) e4
      exact ⟨by omega, q r a4 b4⟩
theorem ok_take {f fM : Addr} {fd fdM : FuncData} (B : Bi mg) (D : Dn K mg "_law_take" s_take ["store", "many"] f fd) (D_mixed : Dn K mg "_law_mixed" s_mixed ["number", "turn", "many"] fM fdM) : FnOk P w K mg base CX0 2 f fd ["store", "many"] spTake := by
  have G_mixed : FnOk P w K mg base CX0 1 fM fdM ["number", "turn", "many"] spMixed := ok_mixed B D_mixed
  refine D.F.ok sc_take (fun vs H Q E h => ?_) (fun cdv A outer s H vs Q E hr h => ?_)
  · obtain ⟨a, c, m, rfl, _⟩ := h
    rfl
  · obtain ⟨a, c, m, rfl, S, hm, q⟩ := h
    obtain ⟨cells, pos, val, turn, seed, ha, hc, h0, hv⟩ := S.ex
    refine ⟨_, (pss_cons (ps_if (pt_cmpR op_lt (pv 1) pe_int (nomark _)) (pss_one (ps_ret pe_int)) pss_nil)
      (pss_cons (ps_set (i := 2) sc_take.nd rfl (.inl rfl) (pe_ix (ix_listK (K := K)) (pv 0) pe_int (fun _ _ => rfl)))
      (pss_cons (ps_set (i := 3) sc_take.nd rfl (.inl rfl) (pe_ix (ix_listK (K := K)) (pv 0) pe_int (fun _ _ => rfl)))
      (C8.pss_cut (ps_if (pt_cmpR op_eq (pv 2) pe_int (nomark _)) (pss_cons (ps_asg (pe_op op_add (pe_ix (ix_listK (K := K)) (pv 0) pe_int (fun _ _ => rfl)) pe_int) (pg_sub (pv 0) pe_int set_list (fun _ => rfl)))
      (pss_one (ps_if (pt_cmpR op_lt (pe_ix (ix_listK (K := K)) (pv 0) pe_int (fun _ _ => rfl)) (pe_callB (call_lenXK (K := K)) (by rfl) B.len PySem.boot_len (pa_cons (pe_ix (ix_listK (K := K)) (pv 0) pe_int (fun _ _ => rfl)) pa_nil)) (nomark _)) (pss_cons (ps_set (i := 4) sc_take.nd rfl (.inl rfl) (pe_ix (ix_listK (K := K)) (pe_ix (ix_listK (K := K)) (pv 0) pe_int (fun _ _ => rfl)) (pe_ix (ix_listK (K := K)) (pv 0) pe_int (fun _ _ => rfl)) (fun _ _ => rfl)))
      (pss_cons (ps_asg (pe_op op_add (pe_ix (ix_listK (K := K)) (pv 0) pe_int (fun _ _ => rfl)) pe_int) (pg_sub (pv 0) pe_int set_list (fun _ => rfl)))
      (pss_cons (ps_set (i := 3) sc_take.nd rfl (.inl rfl) (pe_op op_mul (pe_callB call_absI (by rfl) B.abs (by decide +kernel) (pa_cons (pv 4) pa_nil)) pe_int))
      (C8.pss_cut (ps_if (pt_cmpR op_lt (pv 4) pe_int (nomark _)) (pss_one (ps_set (i := 3) sc_take.nd rfl (.inl rfl) (pe_op op_add (pv 3) pe_int))) pss_nil)
      (pss_one (ps_if (pt_cmpR op_ge (pe_callB call_absI (by rfl) B.abs (by decide +kernel) (pa_cons (pv 4) pa_nil)) (pe_op op_pow pe_int pe_int) (nomark _)) (pss_one (ps_set (i := 2) sc_take.nd rfl (.inl rfl) (pe_callB call_absI (by rfl) B.abs (by decide +kernel) (pa_cons (pv 4) pa_nil)))) pss_nil)))))) pss_nil))) pss_nil)
      (pss_cons (ps_if (pt_cmpR op_eq (pv 2) pe_int (nomark _)) (pss_one (ps_ret (pe_call G_mixed (hr.mono (by omega)) (by rfl) D_mixed.g D_mixed.F.kp D_mixed.b .nil pass0 (pa_cons (pv 3) (pa_cons (pe_ix (ix_listK (K := K)) (pv 0) pe_int (fun _ _ => rfl)) (pa_cons (pv 1) pa_nil)))))) pss_nil)
      (pss_cons (ps_asg (pe_op op_fdivW (pe_callTy call_intI (by rfl) B.int_ (by decide +kernel) (pa_cons (pv 2) pa_nil)) (pv 1)) (pg_sub (pv 0) pe_int set_list (fun _ => rfl)))
      (pss_one (ps_ret (pe_op op_modN (pe_callTy call_intI (by rfl) B.int_ (by decide +kernel) (pa_cons (pv 2) pa_nil)) (pv 1)))))))))), ?_⟩
    walk_at "st"
    refine ite2 (fun hlt => ?_) (fun hge => ?_)
    · exact q _ _ S (But.refl _ _) ⟨0, rfl, by omega, .inr rfl⟩
    walk_at "st"
    refine ⟨_, sq_of ha, _, rfl, ?_⟩
    walk_at "st"
    refine ⟨_, sq_of ha, _, rfl, ?_⟩
    refine r_cut (fun σ' H' => ∃ (v n pos' turn' : Int) (x : Option V), σ' = [some (.ref a), some (.int m), some (.int v), some (.int n), x] ∧ H' a = some (.lst [.ref c, .int pos', .int val, .int turn', .int seed]) ∧ H' c = some (.lst (cells.map V.int)) ∧ 0 ≤ pos' ∧ 0 ≤ v ∧ But a H H') (fun N k => ?_) ?_
    · walk_at "rt"
      refine ite2 (fun hz => ?_) (fun hz => k _ _ ⟨_, _, _, _, _, rfl, ha, hc, h0, hv, But.refl _ _⟩)
      have nca := S.ne
      walk_at "st"
      walk_at "ex"
      generalize hH1 : upd H a _ = H1
      have ha1 : H1 a = some (.lst [.ref c, .int pos, .int val, .int (turn + 1), .int seed]) := by rw [← hH1]; exact upd_same
      have hc1 : H1 c = some (.lst (cells.map V.int)) := by rw [← hH1, upd_ne nca]; exact hc
      have b1 : But a H H1 := by rw [← hH1]; exact But.updA
      refine ite2 (fun hp => ?_) (fun hp => k _ _ ⟨_, _, _, _, _, rfl, ha1, hc1, h0, hv, b1⟩)
      have hp' : pos.toNat < cells.length := by
        rw [List.length_map] at hp
        omega
      obtain ⟨cell, hat⟩ := atI_map h0 hp'
      walk_at "st"
      walk_at "ex"

      refine ⟨_, hat, ?_⟩
      walk_at "st"
      walk_at "ex"
      generalize hH2 : upd H1 a _ = H2
      have ha2 : H2 a = some (.lst [.ref c, .int (pos + 1), .int val, .int (turn + 1), .int seed]) := by rw [← hH2]; exact upd_same
      have hc2 : H2 c = some (.lst (cells.map V.int)) := by rw [← hH2, upd_ne nca]; exact hc1
      have b2 : But a H H2 := b1.trans (by rw [← hH2]; exact But.updA)
      walk_at "st"
      refine ⟨.inr ⟨by decide, by decide⟩, ?_⟩
      refine r_cut (fun σ' H' => ∃ (n : Int), σ' = [some (.ref a), some (.int m), some (.int val), some (.int n), some (.int cell)] ∧ H' = H2) (fun N' k' => ?_) ?_
      · walk_at "rt"
        exact ite2 (fun _ => k' _ _ ⟨_, rfl, rfl⟩) (fun _ => k' _ _ ⟨_, rfl, rfl⟩)
      · rintro σ' H' ⟨n, rfl, rfl⟩
        walk_at "rt"
        refine ⟨⟨by decide, by decide, by decide⟩, ite2 (fun _ => k _ _ ⟨_, _, _, _, _, rfl, ha2, hc2, by omega, by split <;> omega, b2⟩) (fun _ => k _ _ ⟨_, _, _, _, _, rfl, ha2, hc2, by omega, hv, b2⟩)⟩
    · rintro σ' H' ⟨v, n, pos', turn', x, rfl, ha', hc', h0', hv', b'⟩
      have nca := S.ne
      walk_at "st"
      refine ite2 (fun hz => ?_) (fun hz => ?_)
      · walk_at "ex"
        refine ⟨_, _, _, rfl, by omega, fun r h1 h2 => q _ _ ⟨⟨cells, pos', val, turn', seed, ha', hc', h0', hv⟩, nca⟩ b' ⟨r, rfl, h1, .inl h2⟩⟩
      · walk_at "st"
        refine ⟨small_div (by omega) hm _, ?_⟩
        walk_at "ex"
        generalize hH1 : upd H' a _ = H1
        have ha1 : H1 a = some (.lst [.ref c, .int pos', .int (v / m), .int turn', .int seed]) := by rw [← hH1]; exact upd_same
        have hc1 : H1 c = some (.lst (cells.map V.int)) := by rw [← hH1, upd_ne nca]; exact hc'
        have b1 : But a H H1 := b'.trans (by rw [← hH1]; exact But.updA)

        refine ⟨by omega, ?_⟩
        generalize e4 : Int.fmod _ _ = r
        obtain ⟨a4, b4⟩ := fm (by omega) e4
        exact q _ _ ⟨⟨cells, pos', v / m, turn', seed, ha1, hc1, h0', Int.ediv_nonneg hv' (by omega)⟩, nca⟩ b1 ⟨r, rfl, a4, .inl b4⟩
end
end K01
namespace K01
open PySem PySem.Spec PyProof.Rows L2
local macro_rules | `(tactic| walk_at "rd") => `(tactic| simp only [start1, wipe, isR, isBool, isInt, isStr, isLst, isTup, tAsg, gName, gSub, tVar, tC, tOp, tUn, tTest, tIfS, tRet, tRetN, tDrop, tB, tAnd, tOr, tNot, tAndV, tOrV, tNotV, tIf, tCB, tCons, tNil, tNext, tCall, tBM, tTup, tLst, rI0, rI, rEq, rNe, scal, forR_eq, forR2_eq, forS_eq, forL_eq, lcL_eq, lcR_eq, lcS_eq, rLenX, rLenS, rMulS, rRepL, rCatL, tPart, tNoPart, CwR.tReplC, rAllK, rInSg, rNinSg, sgn_inj, rAddS, rInSt, tChain, tM1, tM0, rSplitN, rJoinN, exists_eq, rIntI, rIntB, rIntS, rStrI, rAbs, rOrd, rMin, rMax, rIxL, rIxX, rSetL, rAppend, rIxS, rSlS, rSlL, tSl, List.map_cons, List.map_nil, List.replicate_succ, List.replicate_zero, List.length_cons, List.length_nil, Nat.reduceSub, Nat.reduceAdd, Nat.zero_add, Nat.sub_self, List.getElem?_cons_zero, List.getElem?_cons_succ, List.set_cons_zero, List.set_cons_succ, List.append_nil, List.nil_append, List.cons_append, Option.some.injEq, not_true_eq_false, reduceCtorEq, exists_eq_left', exists_eq_left, exists_eq', exists_and_left, exists_and_right, V.int.injEq, V.str.injEq, V.bl.injEq, V.ref.injEq, List.cons.injEq, and_true, true_and, and_assoc, decide_eq_true_eq, Bool.not_eq_true', decide_eq_false_iff_not, ite_true, ite_false, if_true, if_false, Bool.not_true, Bool.not_false, Bool.false_eq_true, eq_self_iff_true, reduceIte, ne_eq, Int.reduceEq, not_false_eq_true])
local macro_rules | `(tactic| walk_at "rt") => `(tactic| try walk_at "rd")
local macro_rules | `(tactic| walk_at "st") => `(tactic| (walk_at "rt"; refine r_seq ?_; walk_at "rt"))
local macro_rules | `(tactic| walk_at "hp") => `(tactic| first | assumption | exact upd_same | (rw [upd_ne (by assumption)]; walk_at "hp"))
local macro_rules | `(tactic| walk_at "ex1") => `(tactic| ((with_reducible refine Exists.intro ?w (And.intro ?hx ?_)); (case hx => first | exact sq_of (by walk_at "hp") | exact .inl (sq_of (by walk_at "hp")) | exact rfl | (show _ = some (HO.lst _); walk_at "hp"))))
local macro_rules | `(tactic| walk_at "ex") => `(tactic| repeat (first | walk_at "ex1" | walk_at "rd"))
abbrev s_store : Stmt := topS 53
theorem sc_store : FnScope ["script", "cell", "cells", "seed"] ["script"] (defScope s_store) := ⟨rfl, rfl, rfl, by decide +kernel, rfl, by decide +kernel, by decide +kernel⟩
abbrev s_signsoftexts : Stmt := topS 64
theorem sc_signsoftexts : FnScope ["found"] [] (defScope s_signsoftexts) := ⟨rfl, rfl, rfl, by decide +kernel, rfl, by decide +kernel, by decide +kernel⟩
def spStore (K : PySem.W.Frag) : Sp := fun vs H Q _ => ∃ (s : Addr) (ns : List Int), vs = [.ref s] ∧ SqL K H s (ns.map V.int) ∧ ns.length ≤ 63 ∧ ∀ (a c : Addr) (H' : Hp), Same H H' → H a = none → StoreAt H' a c → Q (.ref a) H'
def spPick : Sp := fun vs H Q _ => ∃ (a c : Addr) (z : Str), vs = [.ref a, .str z] ∧ StoreAt H a c ∧ z.cps.toList ≠ [] ∧ z.length ≤ 1000 ∧ Drawn H a c (fun v => ∃ k, k ∈ z.cps.toList ∧ v = .str ⟨#[k]⟩) Q
def spChance : Sp := fun vs H Q _ => ∃ (a c : Addr) (m : Int), vs = [.ref a, .int m] ∧ StoreAt H a c ∧ m ≤ 2 ^ 70 ∧ Drawn H a c (fun v => ∃ b, v = .bl b) Q
/-- a number from low to high -/
def Within (lo hi : Int) (v : V) : Prop := ∃ r : Int, v = .int r ∧ lo ≤ r ∧ r ≤ hi
def spRange : Sp := fun vs H Q _ => ∃ (a c : Addr) (lo hi : Int), vs = [.ref a, .int lo, .int hi] ∧ StoreAt H a c ∧ lo ≤ hi ∧ hi - lo < 2 ^ 70 ∧ Drawn H a c (Within lo hi) Q
theorem Drawn.mono {H H1 : Hp} {a c : Addr} {R R' : V → Prop} {Q : VK} (b : But a H H1) (k : ∀ v, R' v → R v) (q : Drawn H a c R Q) : Drawn H1 a c R' Q := fun v H' s b' r => q v H' s (b.trans b') (k v r)
theorem drawn_at {H H1 : Hp} {a c : Addr} {R : V → Prop} {Q : VK} {v : V} (q : Drawn H a c R Q) (S : StoreAt H1 a c) (b : But a H H1) (r : R v) : Q v H1 := q v H1 S b r
section
variable {P : Program} {w : World} {K : PySem.W.Frag} {mg : Str → Option Value} {base : Heap}
theorem ok_store {f : Addr} {fd : FuncData} (B : Bi mg) (D : Dn K mg "_law_store" s_store ["script"] f fd) : FnOk P w K mg base CX0 1 f fd ["script"] (spStore K) := by
  refine D.F.ok sc_store (fun vs H Q E h => ?_) (fun cdv A outer s H vs Q E hr h => ?_)
  · obtain ⟨a, ns, rfl, _⟩ := h
    rfl
  · obtain ⟨a, ns, rfl, S, hl, q⟩ := h
    refine ⟨_, (pss_cons (ps_setLc (i := 2) (own := [("cell", 1)]) (g := gName 1) (tt := tYes) (by rfl) sc_store.nd rfl rfl (sw_true rfl rfl rfl (by decide +kernel)) (pi_listK (K := K) (pv 0)) (blkOk_by (own := [("cell", 1)]) (N := ["script", "cell", "cells", "seed"]) (sc := defScope s_store) (by decide +kernel)) (fun _ _ _ _ _ => pg_name (i := 1) sc_store.nd rfl (Or.inl rfl)) (fun _ _ _ _ _ => pts_nil) (fun _ _ _ _ _ => (pe_callTy call_intI (by rfl) B.int_ (by decide +kernel) (pa_cons (pv 1) pa_nil))))
      (pss_cons (ps_set (i := 3) sc_store.nd rfl (.inl rfl) (pe_op op_add pe_int (pe_callB (call_lenXK (K := K)) (by rfl) B.len PySem.boot_len (pa_cons (pv 2) pa_nil))))
      (pss_cons (ps_for PassesOwn.never rfl (pi_listK (K := K) (pv 2)) (pg_name (i := 1) sc_store.nd rfl (.inl rfl)) (pss_one (ps_set (i := 3) sc_store.nd rfl (.inl rfl) (pe_op op_modN (pe_callTy call_intI (by rfl) B.int_ (by decide +kernel) (pa_cons (pe_op op_add (pe_op op_mul (pv 3) pe_int) (pe_op op_modN (pe_callTy call_intI (by rfl) B.int_ (by decide +kernel) (pa_cons (pv 1) pa_nil)) pe_int)) pa_nil)) pe_int))))
      (pss_one (ps_ret (pe_lst (pa_cons (pv 2) (pa_cons pe_int (pa_cons pe_int (pa_cons pe_int (pa_cons (pv 3) pa_nil))))))))))), ?_⟩
    refine r_seq ?_
    refine ⟨_, rfl, a, rfl, ⟨_, S⟩, fun c nc => ?_⟩
    refine r_lcL (K := K) (a := a) (ns.map V.int) (fun i H' => But c H H' ∧ H' c = some (.lst ((ns.take i).map V.int))) (fun _ => rfl) ⟨But.updA, upd_same⟩ (fun i H' _ h => (h.1.same nc).seq S) ?_ ?_
    · rintro i x H' hx ⟨sm, hc⟩ N k
      obtain ⟨z, hz, rfl⟩ := map_get hx
      have hi := lt_of_get hz
      have hw : wipe [some (V.ref a), none, none, none] [1] = [some (V.ref a), none, none, none] := rfl
      show tCB _ _ [some (V.ref a), some (V.int z), none, none] _ _
      walk_at "rt"
      refine k _ _ _ hc ?_ ⟨sm.trans But.updA, ?_⟩
      · rw [List.length_map, List.length_take]; exact small1000 (by omega)
      · rw [upd_same, take_map hz]
    · rintro H1 ⟨sm, hc⟩
      rw [List.length_map, List.take_length] at hc
      walk_at "rt"
      walk_at "st"
      walk_at "ex"
      refine r_seq ?_
      refine ⟨_, rfl, c, rfl, ⟨_, sq_of hc⟩, ?_⟩
      refine r_list (K := K) (a := c) (ns.map V.int) (fun i σ H' => (∃ (z : Int) (x : Option V), σ = [some (.ref a), x, some (.ref c), some (.int z)]) ∧ H' = H1) ⟨⟨_, _, rfl⟩, rfl⟩ (fun i σ H' _ h => by rw [h.2]; exact sq_of hc) ?_ ?_
      · rintro i x σ H' hx ⟨⟨z, y, rfl⟩, rfl⟩ N k
        obtain ⟨t, ht, rfl⟩ := map_get hx
        walk_at "rt"
        exact ⟨.inr ⟨by decide, by decide⟩, k _ _ ⟨⟨_, _, rfl⟩, rfl⟩⟩
      · rintro σ H' ⟨⟨z, y, rfl⟩, rfl⟩
        walk_at "rt"
        refine ⟨by decide, fun p np => ?_⟩
        have np0 : H p = none := (sm.same nc).free np
        have ncp : c ≠ p := ne_of_none hc np
        exact q p c _ ((sm.same nc).trans (Same.new np)) np0 ⟨⟨ns, 0, 0, 0, z, upd_same, by rw [upd_ne ncp]; exact hc, by decide, by decide⟩, ncp⟩
end
end K01
namespace K01
open PySem PySem.Spec PyProof.Rows L2
local macro_rules | `(tactic| walk_at "rd") => `(tactic| simp only [start1, wipe, isR, isBool, isInt, isStr, isLst, isTup, tAsg, gName, gSub, tVar, tC, tOp, tUn, tTest, tIfS, tRet, tRetN, tDrop, tB, tAnd, tOr, tNot, tAndV, tOrV, tNotV, tIf, tCB, tCons, tNil, tNext, tCall, tBM, tTup, tLst, rI0, rI, rEq, rNe, scal, forR_eq, forR2_eq, forS_eq, forL_eq, lcL_eq, lcR_eq, lcS_eq, rLenX, rLenS, rMulS, rRepL, rCatL, tPart, tNoPart, CwR.tReplC, rAllK, rInSg, rNinSg, sgn_inj, rAddS, rInSt, tChain, tM1, tM0, rSplitN, rJoinN, exists_eq, rIntI, rIntB, rIntS, rStrI, rAbs, rOrd, rMin, rMax, rIxL, rIxX, rSetL, rAppend, rIxS, rSlS, rSlL, tSl, List.map_cons, List.map_nil, List.replicate_succ, List.replicate_zero, List.length_cons, List.length_nil, Nat.reduceSub, Nat.reduceAdd, Nat.zero_add, Nat.sub_self, List.getElem?_cons_zero, List.getElem?_cons_succ, List.set_cons_zero, List.set_cons_succ, List.append_nil, List.nil_append, List.cons_append, Option.some.injEq, not_true_eq_false, reduceCtorEq, exists_eq_left', exists_eq_left, exists_eq', exists_and_left, exists_and_right, V.int.injEq, V.str.injEq, V.bl.injEq, V.ref.injEq, List.cons.injEq, and_true, true_and, and_assoc, decide_eq_true_eq, Bool.not_eq_true', decide_eq_false_iff_not, ite_true, ite_false, if_true, if_false, Bool.not_true, Bool.not_false, Bool.false_eq_true, eq_self_iff_true, reduceIte, ne_eq, Int.reduceEq, not_false_eq_true])
local macro_rules | `(tactic| walk_at "rt") => `(tactic| try walk_at "rd")
local macro_rules | `(tactic| walk_at "st") => `(tactic| (walk_at "rt"; refine r_seq ?_; walk_at "rt"))
local macro_rules | `(tactic| walk_at "hp") => `(tactic| first | assumption | exact upd_same | (rw [upd_ne (by assumption)]; walk_at "hp"))
local macro_rules | `(tactic| walk_at "ex1") => `(tactic| ((with_reducible refine Exists.intro ?w (And.intro ?hx ?_)); (case hx => first | exact sq_of (by walk_at "hp") | exact .inl (sq_of (by walk_at "hp")) | exact rfl | (show _ = some (HO.lst _); walk_at "hp"))))
local macro_rules | `(tactic| walk_at "ex") => `(tactic| repeat (first | walk_at "ex1" | walk_at "rd"))
section
variable {P : Program} {w : World} {K : PySem.W.Frag} {mg : Str → Option Value} {base : Heap}
theorem line_of {n : Nat} (h : n ≤ 16777216) : n ≤ sizeLine := by rw [PySem.sizeLine_eq]; exact h
theorem ok_pick {f f_take : Addr} {fd fd_take : FuncData} (B : Bi mg) (D : Dn K mg "_law_pick" s_pick ["store", "row"] f fd) (D_take : Dn K mg "_law_take" s_take ["store", "many"] f_take fd_take)
    (G_take : FnOk P w K mg base CX0 2 f_take fd_take ["store", "many"] spTake) : FnOk P w K mg base CX0 3 f fd ["store", "row"] spPick := by
  refine D.F.ok sc_pick (fun vs H Q E h => ?_) (fun cdv A outer s H vs Q E hr h => ?_)
  · obtain ⟨a, c, z, rfl, _⟩ := h
    rfl
  · obtain ⟨a, c, z, rfl, S, hne, hl, q⟩ := h
    refine ⟨_, (pss_cons (ps_if (pt_cmpR op_eq (pe_callB call_lenS (by rfl) B.len PySem.boot_len (pa_cons (pv 1) pa_nil)) pe_int (nomark _)) (pss_one (ps_ret pe_non)) pss_nil)
      (pss_one (ps_ret (pe_ix ix_str (pv 1) (pe_call G_take (hr.mono (by omega)) (by rfl) D_take.g D_take.F.kp D_take.b .nil pass0 (pa_cons (pv 0) (pa_cons (pe_callB call_lenS (by rfl) B.len PySem.boot_len (pa_cons (pv 1) pa_nil)) pa_nil))) (fun _ _ => rfl))))), ?_⟩
    have hz : z.cps.toList.length = z.length := rfl
    have hp : 0 < z.length := by
      rw [← hz]
      exact List.length_pos_iff.mpr hne
    walk_at "st"
    refine ⟨line_of (by omega), ite2 (fun e => absurd e (by omega)) (fun _ => ?_)⟩
    walk_at "rt"
    refine ⟨line_of (by omega), a, c, _, rfl, S, by omega, fun v H' S' b' ⟨r, e, r0, r1⟩ => ?_⟩
    subst e
    walk_at "rt"
    obtain ⟨k, hk, hk2⟩ := atI_get (xs := z.cps.toList) (i := r) r0 (by omega)
    exact ⟨line_of (by omega), k, hk, q _ _ S' b' ⟨k, List.mem_of_getElem? hk2, rfl⟩⟩
theorem ok_chance {f f_take : Addr} {fd fd_take : FuncData} (B : Bi mg) (D : Dn K mg "_law_chance" s_chance ["store", "many"] f fd) (D_take : Dn K mg "_law_take" s_take ["store", "many"] f_take fd_take)
    (G_take : FnOk P w K mg base CX0 2 f_take fd_take ["store", "many"] spTake) : FnOk P w K mg base CX0 3 f fd ["store", "many"] spChance := by
  refine D.F.ok sc_chance (fun vs H Q E h => ?_) (fun cdv A outer s H vs Q E hr h => ?_)
  · obtain ⟨a, c, z, rfl, _⟩ := h
    rfl
  · obtain ⟨a, c, m, rfl, S, hm, q⟩ := h
    refine ⟨_, (pss_one (ps_ret (pe_cmpR op_eq (pe_call G_take (hr.mono (by omega)) (by rfl) D_take.g D_take.F.kp D_take.b .nil pass0 (pa_cons (pv 0) (pa_cons (pv 1) pa_nil))) pe_int (nomark _)))), ?_⟩
    walk_at "rt"
    refine ⟨a, c, _, rfl, S, hm, fun v H' S' b' ⟨r, e, r0, r1⟩ => ?_⟩
    subst e
    walk_at "rt"
    exact q _ _ S' b' ⟨_, rfl⟩
theorem ok_number {f f_take f_chance : Addr} {fd fd_take fd_chance : FuncData} (B : Bi mg) (D : Dn K mg "_law_number" s_number ["store", "low", "high"] f fd) (D_take : Dn K mg "_law_take" s_take ["store", "many"] f_take fd_take)
    (D_chance : Dn K mg "_law_chance" s_chance ["store", "many"] f_chance fd_chance)
    (G_take : FnOk P w K mg base CX0 2 f_take fd_take ["store", "many"] spTake) (G_chance : FnOk P w K mg base CX0 3 f_chance fd_chance ["store", "many"] spChance) : FnOk P w K mg base CX0 4 f fd ["store", "low", "high"] spRange := by
  refine D.F.ok sc_number (fun vs H Q E h => ?_) (fun cdv A outer s H vs Q E hr h => ?_)
  · obtain ⟨a, c, lo, hi, rfl, _⟩ := h
    rfl
  · obtain ⟨a, c, lo, hi, rfl, S, hlh, hw, q⟩ := h
    refine ⟨_, (pss_cons (ps_set (i := 3) sc_number.nd rfl (.inl rfl) (pe_call G_take (hr.mono (by omega)) (by rfl) D_take.g D_take.F.kp D_take.b .nil pass0 (pa_cons (pv 0) (pa_cons pe_int pa_nil))))
      (pss_cons (ps_if (pt_cmpR op_eq (pv 3) pe_int (nomark _)) (pss_one (ps_ret (pv 1))) pss_nil)
      (pss_cons (ps_if (pt_cmpR op_eq (pv 3) pe_int (nomark _)) (pss_one (ps_ret (pv 2))) pss_nil)
      (pss_cons (ps_if (pt_cmpR op_eq (pv 3) pe_int (nomark _)) (pss_cons (ps_if (pt_val (pe_call G_chance (hr.mono (by omega)) (by rfl) D_chance.g D_chance.F.kp D_chance.b .nil pass0 (pa_cons (pv 0) (pa_cons pe_int pa_nil)))) (pss_one (ps_ret (pe_callB (call_minI rfl) (by rfl) B.min (by decide +kernel) (pa_cons (pe_op op_add (pv 1) pe_int) (pa_cons (pv 2) pa_nil))))) pss_nil)
      (pss_one (ps_ret (pe_callB (call_maxI rfl) (by rfl) B.max (by decide +kernel) (pa_cons (pe_op op_sub (pv 2) pe_int) (pa_cons (pv 1) pa_nil)))))) pss_nil)
      (pss_one (ps_ret (pe_op op_add (pv 1) (pe_call G_take (hr.mono (by omega)) (by rfl) D_take.g D_take.F.kp D_take.b .nil pass0 (pa_cons (pv 0) (pa_cons (pe_op op_add (pe_op op_sub (pv 2) (pv 1)) pe_int) pa_nil)))))))))), ?_⟩
    walk_at "st"
    refine ⟨a, c, _, rfl, S, by decide, fun v H1 S1 b1 ⟨r, e, r0, r1⟩ => ?_⟩
    subst e
    walk_at "st"
    refine ite2 (fun _ => q _ _ S1 b1 ⟨_, rfl, by omega, by omega⟩) (fun _ => ?_)
    walk_at "st"
    refine ite2 (fun _ => q _ _ S1 b1 ⟨_, rfl, by omega, by omega⟩) (fun _ => ?_)
    walk_at "st"
    refine ite2 (fun _ => ?_) (fun _ => ?_)
    · walk_at "st"
      refine ⟨a, c, _, rfl, S1, by decide, fun v H2 S2 b2 ⟨k, e⟩ => ?_⟩
      subst e
      walk_at "rt"
      refine ite2 (fun _ => q _ _ S2 (b1.trans b2) ⟨_, rfl, by split <;> omega, by split <;> omega⟩) (fun _ => q _ _ S2 (b1.trans b2) ⟨_, rfl, by split <;> omega, by split <;> omega⟩)
    · walk_at "rt"
      refine ⟨a, c, _, rfl, S1, by omega, fun v H2 S2 b2 ⟨k, e, k0, k1⟩ => ?_⟩
      subst e
      walk_at "rt"
      exact q _ _ S2 (b1.trans b2) ⟨_, rfl, by omega, by omega⟩
theorem ok_size {f f_take : Addr} {fd fd_take : FuncData} (B : Bi mg) (D : Dn K mg "_law_size" s_size ["store", "low", "high"] f fd) (D_take : Dn K mg "_law_take" s_take ["store", "many"] f_take fd_take)
    (G_take : FnOk P w K mg base CX0 2 f_take fd_take ["store", "many"] spTake) : FnOk P w K mg base CX0 3 f fd ["store", "low", "high"] spRange := by
  refine D.F.ok sc_size (fun vs H Q E h => ?_) (fun cdv A outer s H vs Q E hr h => ?_)
  · obtain ⟨a, c, lo, hi, rfl, _⟩ := h
    rfl
  · obtain ⟨a, c, lo, hi, rfl, S, hlh, hw, q⟩ := h
    refine ⟨_, (pss_cons (ps_set (i := 3) sc_size.nd rfl (.inl rfl) (pe_call G_take (hr.mono (by omega)) (by rfl) D_take.g D_take.F.kp D_take.b .nil pass0 (pa_cons (pv 0) (pa_cons pe_int pa_nil))))
      (pss_cons (ps_if (pt_cmpR op_lt (pv 3) pe_int (nomark _)) (pss_one (ps_ret (pv 1))) pss_nil)
      (pss_cons (ps_if (pt_cmpR op_eq (pv 3) pe_int (nomark _)) (pss_one (ps_ret (pv 2))) pss_nil)
      (pss_cons (ps_if (pt_cmpR op_lt (pv 3) pe_int (nomark _)) (pss_one (ps_ret (pe_op op_add (pv 1) (pe_call G_take (hr.mono (by omega)) (by rfl) D_take.g D_take.F.kp D_take.b .nil pass0 (pa_cons (pv 0) (pa_cons (pe_op op_add (pe_op op_sub (pv 2) (pv 1)) pe_int) pa_nil)))))) pss_nil)
      (pss_one (ps_ret (pe_op op_add (pv 1) (pe_call G_take (hr.mono (by omega)) (by rfl) D_take.g D_take.F.kp D_take.b .nil pass0 (pa_cons (pv 0) (pa_cons (pe_op op_add (pe_callB (call_minI rfl) (by rfl) B.min (by decide +kernel) (pa_cons (pe_op op_sub (pv 2) (pv 1)) (pa_cons pe_int pa_nil))) pe_int) pa_nil)))))))))), ?_⟩
    walk_at "st"
    refine ⟨a, c, _, rfl, S, by decide, fun v H1 S1 b1 ⟨r, e, r0, r1⟩ => ?_⟩
    subst e
    walk_at "st"
    refine ite2 (fun _ => q _ _ S1 b1 ⟨_, rfl, by omega, by omega⟩) (fun _ => ?_)
    walk_at "st"
    refine ite2 (fun _ => q _ _ S1 b1 ⟨_, rfl, by omega, by omega⟩) (fun _ => ?_)
    walk_at "st"
    refine ite2 (fun _ => ?_) (fun _ => ?_)
    · refine ⟨a, c, _, rfl, S1, by omega, fun v H2 S2 b2 ⟨k, e, k0, k1⟩ => ?_⟩
      subst e
      walk_at "rt"
      exact q _ _ S2 (b1.trans b2) ⟨_, rfl, by omega, by omega⟩
    · walk_at "rt"
      refine ⟨a, c, _, rfl, S1, by split <;> omega, fun v H2 S2 b2 ⟨k, e, k0, k1⟩ => ?_⟩
      subst e
      walk_at "rt"
      exact q _ _ S2 (b1.trans b2) ⟨_, rfl, by omega, by split at k1 <;> omega⟩
end
end K01
namespace K01
open PySem PySem.Spec PyProof.Rows L2
local macro_rules | `(tactic| walk_at "rd") => `(tactic| simp only [start1, wipe, isR, isBool, isInt, isStr, isLst, isTup, tAsg, gName, gSub, tVar, tC, tOp, tUn, tTest, tIfS, tRet, tRetN, tDrop, tB, tAnd, tOr, tNot, tAndV, tOrV, tNotV, tIf, tCB, tCons, tNil, tNext, tCall, tBM, tTup, tLst, rI0, rI, rEq, rNe, scal, forR_eq, forR2_eq, forS_eq, forL_eq, lcL_eq, lcR_eq, lcS_eq, rLenX, rLenS, rMulS, rRepL, rCatL, tPart, tNoPart, CwR.tReplC, rAllK, rInSg, rNinSg, sgn_inj, rAddS, rInSt, tChain, tM1, tM0, rSplitN, rJoinN, exists_eq, rIntI, rIntB, rIntS, rStrI, rAbs, rOrd, rMin, rMax, rIxL, rIxX, rSetL, rAppend, rIxS, rSlS, rSlL, tSl, List.map_cons, List.map_nil, List.replicate_succ, List.replicate_zero, List.length_cons, List.length_nil, Nat.reduceSub, Nat.reduceAdd, Nat.zero_add, Nat.sub_self, List.getElem?_cons_zero, List.getElem?_cons_succ, List.set_cons_zero, List.set_cons_succ, List.append_nil, List.nil_append, List.cons_append, Option.some.injEq, not_true_eq_false, reduceCtorEq, exists_eq_left', exists_eq_left, exists_eq', exists_and_left, exists_and_right, V.int.injEq, V.str.injEq, V.bl.injEq, V.ref.injEq, List.cons.injEq, and_true, true_and, and_assoc, decide_eq_true_eq, Bool.not_eq_true', decide_eq_false_iff_not, ite_true, ite_false, if_true, if_false, Bool.not_true, Bool.not_false, Bool.false_eq_true, eq_self_iff_true, reduceIte, ne_eq, Int.reduceEq, not_false_eq_true])
local macro_rules | `(tactic| walk_at "rt") => `(tactic| try walk_at "rd")
local macro_rules | `(tactic| walk_at "st") => `(tactic| (walk_at "rt"; refine r_seq ?_; walk_at "rt"))
local macro_rules | `(tactic| walk_at "hp") => `(tactic| first | assumption | exact upd_same | (rw [upd_ne (by assumption)]; walk_at "hp"))
local macro_rules | `(tactic| walk_at "ex1") => `(tactic| ((with_reducible refine Exists.intro ?w (And.intro ?hx ?_)); (case hx => first | exact sq_of (by walk_at "hp") | exact .inl (sq_of (by walk_at "hp")) | exact rfl | (show _ = some (HO.lst _); walk_at "hp"))))
local macro_rules | `(tactic| walk_at "ex") => `(tactic| repeat (first | walk_at "ex1" | walk_at "rd"))
abbrev s_same : Stmt := topS 61
theorem sc_same : FnScope ["one", "two"] ["one", "two"] (defScope s_same) := ⟨rfl, rfl, rfl, by decide +kernel, rfl, by decide +kernel, by decide +kernel⟩
abbrev s_samerows : Stmt := topS 62
theorem sc_samerows : FnScope ["one", "two", "k"] ["one", "two"] (defScope s_samerows) := ⟨rfl, rfl, rfl, by decide +kernel, rfl, by decide +kernel, by decide +kernel⟩
abbrev s_samedicts : Stmt := topS 63
theorem sc_samedicts : FnScope ["one", "two", "key"] ["one", "two"] (defScope s_samedicts) := ⟨rfl, rfl, rfl, by decide +kernel, rfl, by decide +kernel, by decide +kernel⟩

def spSame (n : Nat) : Sp := fun vs H Q _ => ∃ (x y : V) (A B : Addr → Prop) (d e : Dat), vs = [x, y] ∧ At H A d x ∧ At H B e y ∧ d.dep ≤ n ∧ Q (.bl (same d e)) H
def spRows : Nat → Sp
  | 0 => fun _ _ _ _ => False
  | n + 1 => fun vs H Q _ => ∃ (x y : V) (A B : Addr → Prop) (l m : List Dat), vs = [x, y] ∧ ((At H A (.lst l) x ∧ At H B (.lst m) y) ∨ (At H A (.tup l) x ∧ At H B (.tup m) y)) ∧ depL l ≤ n ∧ Q (.bl (sameL l m)) H
section
variable {P : Program} {w : World} {K : PySem.W.Frag} {mg : Str → Option Value} {base : Heap}
theorem ok_same {f fR : Addr} {fd fdR : FuncData} (B : Bi mg) (D : Dn K mg "_law_same" s_same ["one", "two"] f fd) (D_samerows : Dn K mg "_law_same_rows" s_samerows ["one", "two"] fR fdR) (n k : Nat)
    (G_samerows : FnOk P w K mg base CX0 (k + 1) fR fdR ["one", "two"] (spRows n)) : FnOk P w K mg base CX0 (k + 2) f fd ["one", "two"] (spSame n) := by
  refine D.F.ok sc_same (fun vs H Q E h => ?_) (fun cdv A outer s H vs Q E hr h => ?_)
  · obtain ⟨x, y, A, B, d, e, rfl, _⟩ := h
    rfl
  · obtain ⟨x, y, A1, A2, d, e, rfl, hd, he, hn, q⟩ := h
    have hr1 : Room (k + 1) _ := hr
    have hd' := hd
    have he' := he
    refine ⟨_, (pss_cons (ps_if (PW.pt (pw_or (pt_cmpR op_isN (pv 0) pe_non (nomark _)) (pw_or1 (pt_cmpR op_isN (pv 1) pe_non (nomark _))))) (pss_one (ps_ret (pe_and (pe_cmpR op_isN (pv 0) pe_non (nomark _)) (pe_one (pe_cmpR op_isN (pv 1) pe_non (nomark _)))))) pss_nil)
      (pss_cons (ps_if (PW.pt (pw_or (pt_val (pe_callB call_is_bool (by rfl) B.isinstance (by decide +kernel) (pa_cons (pv 0) (pa_cons (pe_bltn (v := .ty "bool") (by rfl) B.bool_ (by decide +kernel) rfl) pa_nil)))) (pw_or1 (pt_val (pe_callB call_is_bool (by rfl) B.isinstance (by decide +kernel) (pa_cons (pv 1) (pa_cons (pe_bltn (v := .ty "bool") (by rfl) B.bool_ (by decide +kernel) rfl) pa_nil))))))) (pss_one (ps_ret (pe_and (pe_callB call_is_bool (by rfl) B.isinstance (by decide +kernel) (pa_cons (pv 0) (pa_cons (pe_bltn (v := .ty "bool") (by rfl) B.bool_ (by decide +kernel) rfl) pa_nil))) (pe_and (pe_callB call_is_bool (by rfl) B.isinstance (by decide +kernel) (pa_cons (pv 1) (pa_cons (pe_bltn (v := .ty "bool") (by rfl) B.bool_ (by decide +kernel) rfl) pa_nil))) (pe_one (pe_cmpR op_eq (pv 0) (pv 1) (nomark _))))))) pss_nil)
      (pss_cons (ps_if (PW.pt (pw_or (pt_val (pe_callB call_is_int (by rfl) B.isinstance (by decide +kernel) (pa_cons (pv 0) (pa_cons (pe_bltn (v := .ty "int") (by rfl) B.int_ (by decide +kernel) rfl) pa_nil)))) (pw_or1 (pt_val (pe_callB call_is_int (by rfl) B.isinstance (by decide +kernel) (pa_cons (pv 1) (pa_cons (pe_bltn (v := .ty "int") (by rfl) B.int_ (by decide +kernel) rfl) pa_nil))))))) (pss_one (ps_ret (pe_and (pe_callB call_is_int (by rfl) B.isinstance (by decide +kernel) (pa_cons (pv 0) (pa_cons (pe_bltn (v := .ty "int") (by rfl) B.int_ (by decide +kernel) rfl) pa_nil))) (pe_and (pe_callB call_is_int (by rfl) B.isinstance (by decide +kernel) (pa_cons (pv 1) (pa_cons (pe_bltn (v := .ty "int") (by rfl) B.int_ (by decide +kernel) rfl) pa_nil))) (pe_one (pe_cmpR op_eq (pv 0) (pv 1) (nomark _))))))) pss_nil)
      (pss_cons (ps_if (PW.pt (pw_or (pt_val (pe_callB call_is_str (by rfl) B.isinstance (by decide +kernel) (pa_cons (pv 0) (pa_cons (pe_bltn (v := .ty "str") (by rfl) B.str_ (by decide +kernel) rfl) pa_nil)))) (pw_or1 (pt_val (pe_callB call_is_str (by rfl) B.isinstance (by decide +kernel) (pa_cons (pv 1) (pa_cons (pe_bltn (v := .ty "str") (by rfl) B.str_ (by decide +kernel) rfl) pa_nil))))))) (pss_one (ps_ret (pe_and (pe_callB call_is_str (by rfl) B.isinstance (by decide +kernel) (pa_cons (pv 0) (pa_cons (pe_bltn (v := .ty "str") (by rfl) B.str_ (by decide +kernel) rfl) pa_nil))) (pe_and (pe_callB call_is_str (by rfl) B.isinstance (by decide +kernel) (pa_cons (pv 1) (pa_cons (pe_bltn (v := .ty "str") (by rfl) B.str_ (by decide +kernel) rfl) pa_nil))) (pe_one (pe_cmpR op_eq (pv 0) (pv 1) (nomark _))))))) pss_nil)
      (pss_cons (ps_if (PW.pt (pw_or (pt_val (pe_callB call_is_dict (by rfl) B.isinstance (by decide +kernel) (pa_cons (pv 0) (pa_cons (pe_bltn (v := .ty "dict") (by rfl) B.dict_ (by decide +kernel) rfl) pa_nil)))) (pw_or1 (pt_val (pe_callB call_is_dict (by rfl) B.isinstance (by decide +kernel) (pa_cons (pv 1) (pa_cons (pe_bltn (v := .ty "dict") (by rfl) B.dict_ (by decide +kernel) rfl) pa_nil))))))) (pss_one ps_never) pss_nil)
      (pss_cons (ps_if (PW.pt (pw_or (PW.pt (pw_and (pt_val (pe_callB call_is_list (by rfl) B.isinstance (by decide +kernel) (pa_cons (pv 0) (pa_cons (pe_bltn (v := .ty "list") (by rfl) B.list_ (by decide +kernel) rfl) pa_nil)))) (pw_and1 (pt_val (pe_callB call_is_list (by rfl) B.isinstance (by decide +kernel) (pa_cons (pv 1) (pa_cons (pe_bltn (v := .ty "list") (by rfl) B.list_ (by decide +kernel) rfl) pa_nil))))))) (pw_or1 (PW.pt (pw_and (pt_val (pe_callB call_is_tuple (by rfl) B.isinstance (by decide +kernel) (pa_cons (pv 0) (pa_cons (pe_bltn (v := .ty "tuple") (by rfl) B.tuple_ (by decide +kernel) rfl) pa_nil)))) (pw_and1 (pt_val (pe_callB call_is_tuple (by rfl) B.isinstance (by decide +kernel) (pa_cons (pv 1) (pa_cons (pe_bltn (v := .ty "tuple") (by rfl) B.tuple_ (by decide +kernel) rfl) pa_nil)))))))))) (pss_one (ps_ret (pe_call G_samerows (hr.mono (by omega)) (by rfl) D_samerows.g D_samerows.F.kp D_samerows.b .nil pass0 (pa_cons (pv 0) (pa_cons (pv 1) pa_nil))))) pss_nil)
      (pss_one (ps_ret pe_bl)))))))), ?_⟩
    rcases d with _ | b | i | z | l | l <;> rcases e with _ | b' | i' | z' | l' | l'
    all_goals simp only [At] at hd he
    all_goals (first | subst hd | (obtain ⟨a, xs, rfl, hd⟩ := hd))
    all_goals (first | subst he | (obtain ⟨a', ys, rfl, he⟩ := he))
    all_goals (repeat (first | (with_reducible refine Exists.intro _ (Exists.intro _ (And.intro hd' ?_))) | (with_reducible refine Exists.intro _ (Exists.intro _ (And.intro he' ?_))) | (with_reducible refine And.intro (Exists.intro _ (Exists.intro _ hd')) ?_) | (with_reducible refine And.intro (Exists.intro _ (Exists.intro _ he')) ?_) | simp only [isR, isBool, isInt, isStr, isLst, isTup, reduceCtorEq, decide_false, decide_true, Bool.or_true, Bool.and_true, Bool.false_and, Bool.true_and] | walk_at "rd" | (with_reducible refine r_seq ?_)))
    all_goals (first | exact q | (simp only [same, reduceCtorEq] at q; exact q) | skip)
    · cases n with
      | zero => rw [Dat.dep] at hn; omega
      | succ n => exact ⟨_, _, A1, A2, l, l', rfl, .inl ⟨hd', he'⟩, by rw [Dat.dep] at hn; omega, by rw [same] at q; exact q⟩
    · cases n with
      | zero => rw [Dat.dep] at hn; omega
      | succ n => exact ⟨_, _, A1, A2, l, l', rfl, .inr ⟨hd', he'⟩, by rw [Dat.dep] at hn; omega, by rw [same] at q; exact q⟩
end
theorem sameL_len : ∀ (l m : List Dat), sameL l m = true → l.length = m.length
  | [], [], _ => rfl
  | d :: l, e :: m, h => by
    rw [sameL, Bool.and_eq_true] at h
    rw [List.length_cons, List.length_cons, sameL_len l m h.2]
  | [], _ :: _, h => by cases h
  | _ :: _, [], h => by cases h
theorem sameL_at : ∀ (l m : List Dat) (i : Nat) (d e : Dat), l[i]? = some d → m[i]? = some e → same d e = false → sameL l m = false
  | d :: l, e :: m, 0, _, _, h1, h2, h => by
    cases h1; cases h2
    rw [sameL, h]; rfl
  | d :: l, e :: m, i + 1, _, _, h1, h2, h => by
    rw [sameL, sameL_at l m i _ _ h1 h2 h, Bool.and_false]
  | [], _, _, _, _, h1, _, _ => by simp at h1
  | _ :: _, [], _, _, _, _, h2, _ => by simp at h2
theorem sameL_all : ∀ (l m : List Dat), l.length = m.length → (∀ (i : Nat) (d e : Dat), l[i]? = some d → m[i]? = some e → same d e = true) → sameL l m = true
  | [], [], _, _ => rfl
  | d :: l, e :: m, hl, h => by
    rw [sameL, h 0 d e rfl rfl, sameL_all l m (by simpa using hl) fun i d e h1 h2 => h (i + 1) d e h1 h2]
    rfl
  | [], _ :: _, h, _ => by simp at h
  | _ :: _, [], h, _ => by simp at h
end K01
namespace K01
open PySem PySem.Spec PyProof.Rows L2
local macro_rules | `(tactic| walk_at "rd") => `(tactic| simp only [start1, wipe, isR, isBool, isInt, isStr, isLst, isTup, tAsg, gName, gSub, tVar, tC, tOp, tUn, tTest, tIfS, tRet, tRetN, tDrop, tB, tAnd, tOr, tNot, tAndV, tOrV, tNotV, tIf, tCB, tCons, tNil, tNext, tCall, tBM, tTup, tLst, rI0, rI, rEq, rNe, scal, forR_eq, forR2_eq, forS_eq, forL_eq, lcL_eq, lcR_eq, lcS_eq, rLenX, rLenS, rMulS, rRepL, rCatL, tPart, tNoPart, CwR.tReplC, rAllK, rInSg, rNinSg, sgn_inj, rAddS, rInSt, tChain, tM1, tM0, rSplitN, rJoinN, exists_eq, rIntI, rIntB, rIntS, rStrI, rAbs, rOrd, rMin, rMax, rIxL, rIxX, rSetL, rAppend, rIxS, rSlS, rSlL, tSl, List.map_cons, List.map_nil, List.replicate_succ, List.replicate_zero, List.length_cons, List.length_nil, Nat.reduceSub, Nat.reduceAdd, Nat.zero_add, Nat.sub_self, List.getElem?_cons_zero, List.getElem?_cons_succ, List.set_cons_zero, List.set_cons_succ, List.append_nil, List.nil_append, List.cons_append, Option.some.injEq, not_true_eq_false, reduceCtorEq, exists_eq_left', exists_eq_left, exists_eq', exists_and_left, exists_and_right, V.int.injEq, V.str.injEq, V.bl.injEq, V.ref.injEq, List.cons.injEq, and_true, true_and, and_assoc, decide_eq_true_eq, Bool.not_eq_true', decide_eq_false_iff_not, ite_true, ite_false, if_true, if_false, Bool.not_true, Bool.not_false, Bool.false_eq_true, eq_self_iff_true, reduceIte, ne_eq, Int.reduceEq, not_false_eq_true])
local macro_rules | `(tactic| walk_at "rt") => `(tactic| try walk_at "rd")
local macro_rules | `(tactic| walk_at "st") => `(tactic| (walk_at "rt"; refine r_seq ?_; walk_at "rt"))
local macro_rules | `(tactic| walk_at "hp") => `(tactic| first | assumption | exact upd_same | (rw [upd_ne (by assumption)]; walk_at "hp"))
local macro_rules | `(tactic| walk_at "ex1") => `(tactic| ((with_reducible refine Exists.intro ?w (And.intro ?hx ?_)); (case hx => first | exact sq_of (by walk_at "hp") | exact .inl (sq_of (by walk_at "hp")) | exact rfl | (show _ = some (HO.lst _); walk_at "hp"))))
local macro_rules | `(tactic| walk_at "ex") => `(tactic| repeat (first | walk_at "ex1" | walk_at "rd"))
section
variable {P : Program} {w : World} {K : PySem.W.Frag} {mg : Str → Option Value} {base : Heap}
/-- what a list and a tuple have in common -/
def SqX (K : PySem.W.Frag) (H : Hp) (a : Addr) (xs : List V) : Prop := SqL K H a xs ∨ SqT K H a xs
theorem ok_rows0 {fR : Addr} {fdR : FuncData} (D : Dn K mg "_law_same_rows" s_samerows ["one", "two"] fR fdR) : FnOk P w K mg base CX0 1 fR fdR ["one", "two"] (spRows 0) :=
  D.F.ok sc_samerows (fun vs H Q E h => h.elim) (fun cdv A outer s H vs Q E hr h => h.elim)
theorem ok_rows {f fR : Addr} {fd fdR : FuncData} (B : Bi mg) (D_same : Dn K mg "_law_same" s_same ["one", "two"] f fd) (D : Dn K mg "_law_same_rows" s_samerows ["one", "two"] fR fdR) (n k : Nat)
    (G_same : FnOk P w K mg base CX0 (k + 1) f fd ["one", "two"] (spSame n)) : FnOk P w K mg base CX0 (k + 2) fR fdR ["one", "two"] (spRows (n + 1)) := by
  refine D.F.ok sc_samerows (fun vs H Q E h => ?_) (fun cdv A outer s H vs Q E hr h => ?_)
  · obtain ⟨x, y, A, B, l, m, rfl, _⟩ := h
    rfl
  · obtain ⟨x, y, A1, A2, l, m, rfl, hx, hn, q⟩ := h
    obtain ⟨a, xs, b, ys, rfl, rfl, ha, hb, hla, hlb, La, Lb⟩ : ∃ a xs b ys, x = .ref a ∧ y = .ref b ∧ SqX K H a xs ∧ SqX K H b ys ∧ xs.length ≤ 1000000 ∧ ys.length ≤ 1000000 ∧ AtL H A1 l xs ∧ AtL H A2 m ys := by
      rcases hx with ⟨⟨a, xs, e, _, h1, h2, h3⟩, b, ys, e', _, h1', h2', h3'⟩ | ⟨⟨a, xs, e, _, h1, h2, h3⟩, b, ys, e', _, h1', h2', h3'⟩
      · exact ⟨a, xs, b, ys, e, e', .inl (sq_of h1), .inl (sq_of h1'), h2, h2', h3, h3'⟩
      · exact ⟨a, xs, b, ys, e, e', .inr (.inl (.inl h1)), .inr (.inl (.inl h1')), h2, h2', h3, h3'⟩
    have ela := La.length
    have elb := Lb.length
    refine ⟨_, (pss_cons (ps_if (pt_cmpR op_ne (pe_callB (call_lenXK (K := K)) (by rfl) B.len PySem.boot_len (pa_cons (pv 0) pa_nil)) (pe_callB (call_lenXK (K := K)) (by rfl) B.len PySem.boot_len (pa_cons (pv 1) pa_nil)) (nomark _)) (pss_one (ps_ret pe_bl)) pss_nil)
      (pss_cons (ps_for PassesOwn.never rfl (pi_range1 (by rfl) B.range (pa_cons (pe_callB (call_lenXK (K := K)) (by rfl) B.len PySem.boot_len (pa_cons (pv 0) pa_nil)) pa_nil)) (pg_name (i := 2) sc_samerows.nd rfl (.inl rfl)) (pss_one (ps_if (pt_not (pt_val (pe_call G_same (hr.mono (by omega)) (by rfl) D_same.g D_same.F.kp D_same.b .nil pass0 (pa_cons (pe_ix (ix_sxK (K := K)) (pv 0) (pv 2) (fun _ _ => rfl)) (pa_cons (pe_ix (ix_sxK (K := K)) (pv 1) (pv 2) (fun _ _ => rfl)) pa_nil))))) (pss_one (ps_ret pe_bl)) pss_nil)))
      (pss_one (ps_ret pe_bl)))), ?_⟩
    walk_at "st"
    refine ⟨_, ha, _, hb, ite2 (fun hne => ?_) (fun heq => ?_)⟩
    · have hs : sameL l m = false := by
        cases e : sameL l m with
        | false => rfl
        | true => exact absurd (sameL_len l m e) (by omega)
      rw [hs] at q
      exact q
    walk_at "st"
    refine ⟨_, ha, by omega, by omega, ?_⟩
    have gl : ∀ i : Nat, i < l.length → ∃ d, l[i]? = some d := fun i h => ⟨_, List.getElem?_eq_getElem h⟩
    refine r_range (fun i σ H' => (∃ x : Option V, σ = [some (.ref a), some (.ref b), x]) ∧ H' = H ∧ ∀ (j : Nat) (d e : Dat), j < i → l[j]? = some d → m[j]? = some e → same d e = true) ⟨⟨_, rfl⟩, rfl, fun j _ _ h => absurd h (Nat.not_lt_zero _)⟩ ?_ ?_
    · rintro i σ H' hi ⟨⟨x, rfl⟩, rfl, hall⟩ N k
      have hi' : i < xs.length := by omega
      obtain ⟨d, hd⟩ : ∃ d, l[i]? = some d := ⟨_, List.getElem?_eq_getElem (by omega)⟩
      obtain ⟨e, he⟩ : ∃ e, m[i]? = some e := ⟨_, List.getElem?_eq_getElem (by omega)⟩
      obtain ⟨v, hv, av⟩ := AtL.get l xs i d La hd
      obtain ⟨u, hu, au⟩ := AtL.get m ys i e Lb he
      have a1 : atI xs (0 + (i : Int)) = some v := by rw [Int.zero_add]; exact atI_nat hv
      have a2 : atI ys (0 + (i : Int)) = some u := by rw [Int.zero_add]; exact atI_nat hu
      walk_at "rd"
      refine ⟨_, ha, _, a1, _, hb, _, a2, ?_⟩
      refine ⟨v, u, A1, A2, d, e, rfl, av, au, Nat.le_trans (dep_get l i d hd) hn, ?_⟩
      walk_at "rd"
      refine ite2 (fun hf => ?_) (fun ht => k _ _ ⟨⟨_, rfl⟩, rfl, fun j d' e' hj h1 h2 => ?_⟩)
      · rw [sameL_at l m i d e hd he hf] at q
        exact q
      · by_cases hji : j = i
        · subst hji
          rw [hd] at h1
          rw [he] at h2
          cases h1
          cases h2
          cases e : same d e with
          | true => rfl
          | false => exact absurd e ht
        · exact hall j d' e' (by omega) h1 h2
    · rintro σ H' ⟨⟨x, rfl⟩, rfl, hall⟩
      walk_at "rd"
      have hs : sameL l m = true := sameL_all l m (by omega) fun i d e h1 h2 => hall i d e (by have := lt_of_get h1; omega) h1 h2
      rw [hs] at q
      exact q
theorem same_all {f fR : Addr} {fd fdR : FuncData} (B : Bi mg) (D : Dn K mg "_law_same" s_same ["one", "two"] f fd) (DR : Dn K mg "_law_same_rows" s_samerows ["one", "two"] fR fdR) : ∀ n : Nat, FnOk P w K mg base CX0 (2 * n + 2) f fd ["one", "two"] (spSame n)
  | 0 => ok_same B D DR 0 0 (ok_rows0 DR)
  | n + 1 => ok_same B D DR (n + 1) (2 * n + 2) (ok_rows B D DR n (2 * n + 1) (same_all B D DR n))
end
end K01
namespace K01
open PySem PySem.Spec PyProof.Rows L2
/-! ### lists, copied and turned -/
def rListOf (K : PySem.W.Frag) (xs : List V) (H : Hp) (Q : VK) : Prop := ∃ p, xs = [V.ref p] ∧ ∃ ys, (SqL K H p ys ∨ SqT K H p ys) ∧ ∀ l, H l = none → Q (.ref l) (L2.upd H l (.lst ys))
theorem call_listK {X : Cx} {K : PySem.W.Frag} (h : X.K = K := by rfl) : CallR X (.type "list") (rListOf K) := callR_mono (h ▸ call_list_of) fun _ _ _ ⟨p, e, ys, h1, q⟩ => ⟨p, ys, e, h1, q⟩
theorem pe_revLK {X : Cx} {K : PySem.W.Frag} {e : Expr} {te : TE} {k : Nat} {p1 p2 p3 pos : Pos} (he : PE X e te) (h : X.K = K := by rfl) : PE X (.Subscript e (.Slice none none (some (.UnaryOp .USub (.Constant (.int 1) k p1) p2)) p3) pos) (tRevL K te) := h ▸ pe_revL he
theorem cut_to {xs : List V} {i : Nat} (h : i ≤ xs.length) : cutV xs none (some (i : Int)) = xs.take i := by
  unfold cutV
  rw [HT.sIx_none, HT.sIx_nat, List.drop_zero, Nat.sub_zero, Nat.min_eq_left h]
theorem cut_from {xs : List V} {i : Nat} (h : i ≤ xs.length) : cutV xs (some (i : Int)) none = xs.drop i := by
  unfold cutV
  rw [HT.sIx_none, HT.sIx_nat, Nat.min_eq_left h]
  exact List.take_of_length_le (by rw [List.length_drop]; omega)
theorem perm_pick {xs : List V} {i : Nat} {v : V} (h : xs[i]? = some v) : (v :: (xs.take i ++ xs.drop (i + 1))).Perm xs := by
  have hi := lt_of_get h
  have e : xs = xs.take i ++ v :: xs.drop (i + 1) := by
    have e2 := (List.getElem?_eq_some_iff.mp h).2
    rw [← e2, ← List.drop_eq_getElem_cons hi, List.take_append_drop]
  conv => rhs; rw [e]
  exact (List.perm_middle).symm
end K01
namespace K01
open PySem PySem.Spec PyProof.Rows L2 TL
local macro_rules | `(tactic| walk_at "rd") => `(tactic| simp only [start1, wipe, isR, isBool, isInt, isStr, isLst, isTup, tAsg, gName, gSub, tVar, tC, tOp, tUn, tTest, tIfS, tRet, tRetN, tDrop, tB, tAnd, tOr, tNot, tAndV, tOrV, tNotV, tIf, tCB, tCons, tNil, tNext, tCall, tBM, tTup, tLst, rI0, rI, rEq, rNe, scal, forR_eq, forR2_eq, forS_eq, forL_eq, lcL_eq, lcR_eq, lcS_eq, rLenX, rLenS, rListOf, tRevL, rMulS, rRepL, rCatL, tPart, tNoPart, CwR.tReplC, rAllK, rInSg, rNinSg, sgn_inj, rAddS, rInSt, tChain, tM1, tM0, rSplitN, rJoinN, exists_eq, rIntI, rIntB, rIntS, rStrI, rAbs, rOrd, rMin, rMax, rIxL, rIxX, rSetL, rAppend, rIxS, rSlS, rSlL, tSl, List.map_cons, List.map_nil, List.replicate_succ, List.replicate_zero, List.length_cons, List.length_nil, Nat.reduceSub, Nat.reduceAdd, Nat.zero_add, Nat.sub_self, List.getElem?_cons_zero, List.getElem?_cons_succ, List.set_cons_zero, List.set_cons_succ, List.append_nil, List.nil_append, List.cons_append, Option.some.injEq, not_true_eq_false, reduceCtorEq, exists_eq_left', exists_eq_left, exists_eq', exists_and_left, exists_and_right, V.int.injEq, V.str.injEq, V.bl.injEq, V.ref.injEq, List.cons.injEq, and_true, true_and, and_assoc, decide_eq_true_eq, Bool.not_eq_true', decide_eq_false_iff_not, ite_true, ite_false, if_true, if_false, Bool.not_true, Bool.not_false, Bool.false_eq_true, eq_self_iff_true, reduceIte, ne_eq, Int.reduceEq, not_false_eq_true])
local macro_rules | `(tactic| walk_at "rt") => `(tactic| try walk_at "rd")
local macro_rules | `(tactic| walk_at "st") => `(tactic| (walk_at "rt"; refine r_seq ?_; walk_at "rt"))
local macro_rules | `(tactic| walk_at "hp") => `(tactic| first | assumption | exact upd_same | (rw [upd_ne (by assumption)]; walk_at "hp"))
local macro_rules | `(tactic| walk_at "ex1") => `(tactic| ((with_reducible refine Exists.intro ?w (And.intro ?hx ?_)); (case hx => first | exact sq_of (by walk_at "hp") | exact .inl (sq_of (by walk_at "hp")) | exact rfl | (show _ = some (HO.lst _); walk_at "hp"))))
local macro_rules | `(tactic| walk_at "ex") => `(tactic| repeat (first | walk_at "ex1" | walk_at "rd"))
abbrev s_shuffled : Stmt := topS 60
theorem sc_shuffled : FnScope ["store", "row", "kind", "left", "mixed", "k", "at"] ["store", "row"] (defScope s_shuffled) := ⟨rfl, rfl, rfl, by decide +kernel, rfl, by decide +kernel, by decide +kernel⟩
abbrev s_name : Stmt := topS 66
theorem sc_name : FnScope ["store", "many", "name", "k"] ["store"] (defScope s_name) := ⟨rfl, rfl, rfl, by decide +kernel, rfl, by decide +kernel, by decide +kernel⟩
theorem StoreAt.put {H : Hp} {a c p : Addr} {o : HO} (S : StoreAt H a c) (n1 : p ≠ a) (n2 : p ≠ c) : StoreAt (L2.upd H p o) a c := by
  obtain ⟨⟨cells, pos, val, turn, seed, h1, h2, h3, h4⟩, n⟩ := S
  exact ⟨⟨cells, pos, val, turn, seed, by rw [upd_ne n1.symm]; exact h1, by rw [upd_ne n2.symm]; exact h2, h3, h4⟩, n⟩
theorem StoreAt.new {H : Hp} {a c p : Addr} {o : HO} (S : StoreAt H a c) (n : H p = none) : StoreAt (L2.upd H p o) a c := by
  obtain ⟨cells, pos, val, turn, seed, h1, h2, _⟩ := S.ex
  exact S.put (ne_of_none h1 n).symm (ne_of_none h2 n).symm
theorem StoreAt.ne1 {H : Hp} {a c p : Addr} (S : StoreAt H a c) (n : H p = none) : p ≠ a := by
  obtain ⟨cells, pos, val, turn, seed, h1, h2, _⟩ := S.ex
  exact (ne_of_none h1 n).symm
theorem StoreAt.ne2 {H : Hp} {a c p : Addr} (S : StoreAt H a c) (n : H p = none) : p ≠ c := by
  obtain ⟨cells, pos, val, turn, seed, h1, h2, _⟩ := S.ex
  exact (ne_of_none h2 n).symm
theorem But.putNew {a p : Addr} {H1 H4 : Hp} {o : HO} (h : But a H1 H4) (np : H1 p = none) : But a H1 (L2.upd H4 p o) := fun b x hb e => by
  rw [upd_ne (ne_of_none e np)]
  exact h b x hb e
theorem But.pushNew {a p : Addr} {H1 H2 : Hp} {o : HO} (np : H1 p = none) (h : But a (L2.upd H1 p o) H2) : But a H1 H2 := fun b x hb e => h b x hb (by rw [upd_ne (ne_of_none e np)]; exact e)
theorem But.free {a c q : Addr} {H H' : Hp} (h : But a H H') (S : StoreAt H' a c) (n : H' q = none) : H q = none := by
  cases e : H q with
  | none => rfl
  | some o =>
    have := h q o (S.ne1 n) e
    rw [n] at this
    cases this
theorem size_ok {n : Nat} (h : n ≤ 1000000) : n < sizeLine := Nat.lt_of_le_of_lt h (by rw [PySem.sizeLine_eq]; decide)
theorem str_len (x y : Str) : (x ++ y).length = x.length + y.length := by rw [len_tl, tl_append, List.length_append, ← len_tl, ← len_tl]
/-- a list in another order, new -/
def spShuf (K : PySem.W.Frag) : Sp := fun vs H Q _ => ∃ (a c p : Addr) (xs : List V), vs = [.ref a, .ref p] ∧ StoreAt H a c ∧ H p = some (.lst xs) ∧ p ≠ a ∧ xs.length ≤ 1000 ∧
  ∀ (q : Addr) (ys : List V) (H' : Hp), StoreAt H' a c → But a H H' → H q = none → H' q = some (.lst ys) → ys.Perm xs → Q (.ref q) H'
/-- a place name -/
def nameL (l : List Nat) : Prop := ∃ x r, l = x :: r ∧ r.length ≤ 5 ∧ (97 ≤ x ∧ x ≤ 122) ∧ ∀ y ∈ r, (97 ≤ y ∧ y ≤ 122) ∨ (48 ≤ y ∧ y ≤ 57)
def spName : Sp := fun vs H Q _ => ∃ (a c : Addr), vs = [.ref a] ∧ StoreAt H a c ∧ Drawn H a c (fun v => ∃ z, v = .str z ∧ nameL (tl z)) Q
section
variable {P : Program} {w : World} {K : PySem.W.Frag} {mg : Str → Option Value} {base : Heap}
theorem ok_shuffled {f f_take : Addr} {fd fd_take : FuncData} (B : Bi mg) (D : Dn K mg "_law_shuffled" s_shuffled ["store", "row"] f fd) (D_take : Dn K mg "_law_take" s_take ["store", "many"] f_take fd_take)
    (G_take : FnOk P w K mg base CX0 2 f_take fd_take ["store", "many"] spTake) : FnOk P w K mg base CX0 3 f fd ["store", "row"] (spShuf K) := by
  refine D.F.ok sc_shuffled (fun vs H Q E h => ?_) (fun cdv A outer s H vs Q E hr h => ?_)
  · obtain ⟨a, c, p, xs, rfl, _⟩ := h
    rfl
  · obtain ⟨a, c, p, xs, rfl, S, hp, hpa, hl, q⟩ := h
    refine ⟨_, (pss_cons (ps_set (i := 2) sc_shuffled.nd rfl (.inl rfl) (pe_call G_take (hr.mono (by omega)) (by rfl) D_take.g D_take.F.kp D_take.b .nil pass0 (pa_cons (pv 0) (pa_cons pe_int pa_nil))))
      (pss_cons (ps_if (pt_cmpR op_eq (pv 2) pe_int (nomark _)) (pss_one (ps_ret (pe_callTy (call_listK (K := K)) (by rfl) B.list_ (by decide +kernel) (pa_cons (pv 1) pa_nil)))) pss_nil)
      (pss_cons (ps_if (pt_cmpR op_eq (pv 2) pe_int (nomark _)) (pss_one (ps_ret (pe_revLK (K := K) (pe_callTy (call_listK (K := K)) (by rfl) B.list_ (by decide +kernel) (pa_cons (pv 1) pa_nil))))) pss_nil)
      (pss_cons (ps_set (i := 3) sc_shuffled.nd rfl (.inl rfl) (pe_callTy (call_listK (K := K)) (by rfl) B.list_ (by decide +kernel) (pa_cons (pv 1) pa_nil)))
      (pss_cons (ps_set (i := 4) sc_shuffled.nd rfl (.inl rfl) (pe_lst pa_nil))
      (pss_cons (ps_for PassesOwn.never rfl (pi_range1 (by rfl) B.range (pa_cons (pe_callB (call_lenXK (K := K)) (by rfl) B.len PySem.boot_len (pa_cons (pv 1) pa_nil)) pa_nil)) (pg_name (i := 5) sc_shuffled.nd rfl (.inl rfl)) (pss_cons (ps_set (i := 6) sc_shuffled.nd rfl (.inl rfl) (pe_call G_take (hr.mono (by omega)) (by rfl) D_take.g D_take.F.kp D_take.b .nil pass0 (pa_cons (pv 0) (pa_cons (pe_callB (call_lenXK (K := K)) (by rfl) B.len PySem.boot_len (pa_cons (pv 3) pa_nil)) pa_nil))))
      (pss_cons (ps_expr (pe_bm PySem.F.plainAttrs_list PySem.F.slot_list_append PySem.F.type_list_append mt_append (pv 4) (pa_cons (pe_ix (ix_listK (K := K)) (pv 3) (pv 6) (fun _ _ => rfl)) pa_nil)))
      (pss_one (ps_set (i := 3) sc_shuffled.nd rfl (.inl rfl) (pe_op op_catL (pe_slice (sl_listK (K := K)) (pv 3) po_none (po_some (pv 6))) (pe_slice (sl_listK (K := K)) (pv 3) (po_some (pe_op op_add (pv 6) pe_int)) po_none)))))))
      (pss_one (ps_ret (pv 4))))))))), ?_⟩
    walk_at "st"
    refine ⟨a, c, _, rfl, S, by decide, fun v H1 S1 b1 ⟨r, e, r0, r1⟩ => ?_⟩
    subst e
    have hp1 := b1 p _ hpa hp
    walk_at "st"
    refine ite2 (fun _ => ⟨_, .inl (sq_of hp1), fun l nl => q l xs _ (S1.new nl) (b1.putNew (b1.free S1 nl)) (b1.free S1 nl) upd_same (List.Perm.refl _)⟩) (fun _ => ?_)
    walk_at "st"
    refine ite2 (fun _ => ⟨_, .inl (sq_of hp1), fun l nl => ?_⟩) (fun _ => ?_)
    · refine ⟨xs, sq_of upd_same, fun l2 nl2 => ?_⟩
      have nl3 : H1 l2 = none := (Same.new nl).free nl2
      exact q l2 xs.reverse _ ((S1.new nl).new nl2) ((b1.putNew (b1.free S1 nl)).putNew (b1.free S1 nl3)) (b1.free S1 nl3) upd_same (List.reverse_perm xs)
    walk_at "st"
    refine ⟨_, .inl (sq_of hp1), fun l nl => ?_⟩
    have npl : p ≠ l := ne_of_none hp1 nl
    walk_at "st"
    refine ⟨by decide, fun m nm => ?_⟩
    have hl2 : (L2.upd H1 l (.lst xs)) l = some (.lst xs) := upd_same
    have nlm : l ≠ m := ne_of_none hl2 nm
    have nm1 : H1 m = none := (Same.new nl).free nm
    have npm : p ≠ m := ne_of_none hp1 nm1
    have ma := S1.ne1 nm1
    have mc := S1.ne2 nm1
    walk_at "st"
    refine ⟨_, .inl (sq_of (by rw [upd_ne npm, upd_ne npl]; exact hp1)), by omega, by omega, ?_⟩
    refine r_range (fun i σ H' => (∃ (l : Addr) (x y : Option V), σ = [some (.ref a), some (.ref p), some (.int r), some (.ref l), some (.ref m), x, y] ∧ l ≠ a ∧ l ≠ m ∧ StoreAt H' a c ∧ But a H1 H' ∧ ∃ ls ms : List V, ms.length = i ∧ H' l = some (.lst ls) ∧ H' m = some (.lst ms) ∧ (ms ++ ls).Perm xs))
      ⟨l, _, _, rfl, S1.ne1 nl, nlm, (S1.new nl).new nm, (But.new nl).putNew nm1, xs, [], rfl, by rw [upd_ne nlm]; exact hl2, upd_same, List.Perm.refl _⟩ ?_ ?_
    · rintro i σ H2 hi ⟨l, x, y, rfl, la, lm, S2, b2, ls, ms, hms, hls, hmm, hpm⟩ N k
      have hpl := hpm.length_eq
      rw [List.length_append] at hpl
      walk_at "st"
      refine ⟨_, .inl (sq_of hls), ?_⟩
      refine ⟨a, c, _, rfl, S2, by omega, fun v H3 S3 b3 ⟨t, e, t0, t1⟩ => ?_⟩
      subst e
      have hls3 := b3 l _ la hls
      have hmm3 := b3 m _ ma hmm
      obtain ⟨kk, hk, hk2⟩ := atI_get (xs := ls) (i := t) t0 (by omega)
      have hkl := lt_of_get hk2
      obtain ⟨tn, rfl⟩ : ∃ tn : Nat, t = (tn : Int) := ⟨t.toNat, by omega⟩
      rw [Int.toNat_natCast] at hk2 hkl
      walk_at "st"
      refine ⟨.inl ⟨rfl, _, sq_of hmm3⟩, _, sq_of hls3, _, hk, _, hmm3, size_ok (by omega), ?_⟩
      have hls4 : (L2.upd H3 m (.lst (ms ++ [kk]))) l = some (.lst ls) := by rw [upd_ne lm]; exact hls3
      have S4 : StoreAt (L2.upd H3 m (.lst (ms ++ [kk]))) a c := S3.put ma mc
      have b4 : But a H1 (L2.upd H3 m (.lst (ms ++ [kk]))) := (b2.trans b3).putNew nm1
      have hm4 : (L2.upd H3 m (.lst (ms ++ [kk]))) m = some (.lst (ms ++ [kk])) := upd_same
      generalize L2.upd H3 m (.lst (ms ++ [kk])) = H4 at hls4 S4 b4 hm4
      walk_at "rt"
      have ex1 : ((tn : Int) + 1) = ((tn + 1 : Nat) : Int) := by omega
      refine ⟨_, sq_of hls4, fun q1 nq1 => ?_⟩
      have hls5 : (L2.upd H4 q1 (.lst (cutV ls none (some (tn : Int))))) l = some (.lst ls) := by rw [upd_ne (ne_of_none hls4 nq1)]; exact hls4
      refine ⟨_, sq_of hls5, fun q2 nq2 => ?_⟩
      have n12 : q1 ≠ q2 := ne_of_none (upd_same (H := H4) (a := q1) (o := .lst (cutV ls none (some (tn : Int))))) nq2
      refine ⟨_, by rw [upd_ne n12]; exact upd_same, _, upd_same, ?_, fun q3 nq3 => ?_⟩
      · rw [cut_to (by omega), ex1, cut_from (by omega), List.length_take, List.length_drop]
        exact line_of (by omega)
      have s45 : Same H4 (L2.upd (L2.upd H4 q1 (.lst (cutV ls none (some (tn : Int))))) q2 (.lst (cutV ls (some ((tn : Int) + 1)) none))) := (Same.new nq1).trans (Same.new nq2)
      have nq34 : H4 q3 = none := s45.free nq3
      have hm3 : m ≠ q3 := ne_of_none hm4 nq34
      refine k _ _ ⟨q3, _, _, rfl, S4.ne1 nq34, hm3.symm, ((S4.new nq1).new nq2).new nq3, ((b4.trans (But.of s45)).putNew (b4.free S4 nq34)), cutV ls none (some (tn : Int)) ++ cutV ls (some ((tn : Int) + 1)) none, ms ++ [kk], by rw [List.length_append, hms]; rfl, upd_same, by rw [upd_ne hm3]; exact s45 _ _ hm4, ?_⟩
      rw [cut_to (by omega), ex1, cut_from (by omega), List.append_assoc]
      exact ((perm_pick hk2).append_left ms).trans hpm
    · rintro σ H2 ⟨l, x, y, rfl, la, lm, S2, b2, ls, ms, hms, hls, hmm, hpm⟩
      have hpl := hpm.length_eq
      rw [List.length_append] at hpl
      have e : ls = [] := List.length_eq_zero_iff.mp (by omega)
      subst e
      rw [List.append_nil] at hpm
      walk_at "rt"
      exact q m ms H2 S2 (b1.trans b2) (b1.free S1 nm1) hmm hpm
end
end K01
namespace K01
open PySem PySem.Spec PyProof.Rows L2 TL
local macro_rules | `(tactic| walk_at "rd") => `(tactic| simp only [start1, wipe, isR, isBool, isInt, isStr, isLst, isTup, tAsg, gName, gSub, tVar, tC, tOp, tUn, tTest, tIfS, tRet, tRetN, tDrop, tB, tAnd, tOr, tNot, tAndV, tOrV, tNotV, tIf, tCB, tCons, tNil, tNext, tCall, tBM, tTup, tLst, rI0, rI, rEq, rNe, scal, forR_eq, forR2_eq, forS_eq, forL_eq, lcL_eq, lcR_eq, lcS_eq, rLenX, rLenS, rMulS, rRepL, rCatL, tPart, tNoPart, CwR.tReplC, rAllK, rInSg, rNinSg, sgn_inj, rAddS, rInSt, tChain, tM1, tM0, rSplitN, rJoinN, exists_eq, rIntI, rIntB, rIntS, rStrI, rAbs, rOrd, rMin, rMax, rIxL, rIxX, rSetL, rAppend, rIxS, rSlS, rSlL, tSl, List.map_cons, List.map_nil, List.replicate_succ, List.replicate_zero, List.length_cons, List.length_nil, Nat.reduceSub, Nat.reduceAdd, Nat.zero_add, Nat.sub_self, List.getElem?_cons_zero, List.getElem?_cons_succ, List.set_cons_zero, List.set_cons_succ, List.append_nil, List.nil_append, List.cons_append, Option.some.injEq, not_true_eq_false, reduceCtorEq, exists_eq_left', exists_eq_left, exists_eq', exists_and_left, exists_and_right, V.int.injEq, V.str.injEq, V.bl.injEq, V.ref.injEq, List.cons.injEq, and_true, true_and, and_assoc, decide_eq_true_eq, Bool.not_eq_true', decide_eq_false_iff_not, ite_true, ite_false, if_true, if_false, Bool.not_true, Bool.not_false, Bool.false_eq_true, eq_self_iff_true, reduceIte, ne_eq, Int.reduceEq, not_false_eq_true])
local macro_rules | `(tactic| walk_at "rt") => `(tactic| try walk_at "rd")
local macro_rules | `(tactic| walk_at "st") => `(tactic| (walk_at "rt"; refine r_seq ?_; walk_at "rt"))
local macro_rules | `(tactic| walk_at "hp") => `(tactic| first | assumption | exact upd_same | (rw [upd_ne (by assumption)]; walk_at "hp"))
local macro_rules | `(tactic| walk_at "ex1") => `(tactic| ((with_reducible refine Exists.intro ?w (And.intro ?hx ?_)); (case hx => first | exact sq_of (by walk_at "hp") | exact .inl (sq_of (by walk_at "hp")) | exact rfl | (show _ = some (HO.lst _); walk_at "hp"))))
local macro_rules | `(tactic| walk_at "ex") => `(tactic| repeat (first | walk_at "ex1" | walk_at "rd"))
abbrev s_text : Stmt := topS 65
theorem sc_text : FnScope ["store", "high", "many", "found", "k", "kind"] ["store", "high"] (defScope s_text) := ⟨rfl, rfl, rfl, by decide +kernel, rfl, by decide +kernel, by decide +kernel⟩
theorem joinL_nil_len : ∀ ps : List (List Nat), (joinL [] ps).length = (ps.map (·.length)).sum
  | [] => rfl
  | [p] => by
    show p.length = p.length + 0
    omega
  | p :: q :: r => by
    have ih := joinL_nil_len (q :: r)
    show (p ++ ([] ++ joinL [] (q :: r))).length = p.length + ((q :: r).map (·.length)).sum
    rw [List.length_append, List.nil_append, ih]
theorem sum_ones : ∀ (ws : List Str), (∀ x ∈ ws, x.length = 1) → (ws.map (·.length)).sum = ws.length
  | [], _ => rfl
  | x :: r, h => by
    rw [List.map_cons, List.sum_cons, sum_ones r fun y hy => h y (List.mem_cons_of_mem _ hy), h x List.mem_cons_self, List.length_cons]
    omega
theorem join0_len {y : Str} (hy : tl y = []) {ws : List Str} (h : ∀ x ∈ ws, x.length = 1) : (Txt.join y ws).length = ws.length := by
  rw [len_tl, join_eq, tl_join, hy, joinL_nil_len, List.map_map]
  have e : ws.map (List.length ∘ tl) = ws.map (·.length) := List.map_congr_left fun p _ => (len_tl p).symm
  rw [e, sum_ones ws h]
theorem tl_emp : tl (Str.ofString "") = [] := by decide +kernel
def spSigns : Sp := fun vs H Q _ => vs = [] ∧ ∀ z : Str, tl z ≠ [] → z.length ≤ 900 → Q (.str z) H
def TextLe (n : Int) (v : V) : Prop := ∃ z : Str, v = .str z ∧ (z.length : Int) ≤ n
def spText : Sp := fun vs H Q _ => ∃ (a c : Addr) (hi : Int), vs = [.ref a, .int hi] ∧ StoreAt H a c ∧ 0 ≤ hi ∧ hi ≤ 1000 ∧ Drawn H a c (TextLe hi) Q
section
variable {P : Program} {w : World} {K : PySem.W.Frag} {mg : Str → Option Value} {base : Heap}
theorem ok_signs {f : Addr} {fd : FuncData} (B : Bi mg) (D : Dn K mg "_law_signs_of_texts" s_signsoftexts [] f fd) : FnOk P w K mg base CX0 1 f fd [] spSigns := by
  refine D.F.ok sc_signsoftexts (fun vs H Q E h => ?_) (fun cdv A outer s H vs Q E hr h => ?_)
  · obtain ⟨rfl, _⟩ := h
    rfl
  · obtain ⟨rfl, q⟩ := h
    refine ⟨_, (pss_cons (ps_set (i := 0) sc_signsoftexts.nd rfl (.inl rfl) pe_str)
      (pss_one (ps_ret (pe_op op_addS (pv 0) pe_str)))), ?_⟩
    walk_at "st"
    refine ⟨by decide +kernel, q _ (by decide +kernel) (by decide +kernel)⟩
theorem ok_text {f f_take f_size f_pick f_signs : Addr} {fd fd_take fd_size fd_pick fd_signs : FuncData} (B : Bi mg) (D : Dn K mg "_law_text" s_text ["store", "high"] f fd)
    (D_take : Dn K mg "_law_take" s_take ["store", "many"] f_take fd_take) (D_size : Dn K mg "_law_size" s_size ["store", "low", "high"] f_size fd_size) (D_pick : Dn K mg "_law_pick" s_pick ["store", "row"] f_pick fd_pick) (D_signsoftexts : Dn K mg "_law_signs_of_texts" s_signsoftexts [] f_signs fd_signs)
    (G_take : FnOk P w K mg base CX0 2 f_take fd_take ["store", "many"] spTake) (G_size : FnOk P w K mg base CX0 3 f_size fd_size ["store", "low", "high"] spRange) (G_pick : FnOk P w K mg base CX0 3 f_pick fd_pick ["store", "row"] spPick) (G_signsoftexts : FnOk P w K mg base CX0 1 f_signs fd_signs [] spSigns) :
    FnOk P w K mg base CX0 4 f fd ["store", "high"] spText := by
  refine D.F.ok sc_text (fun vs H Q E h => ?_) (fun cdv A outer s H vs Q E hr h => ?_)
  · obtain ⟨a, c, hi, rfl, _⟩ := h
    rfl
  · obtain ⟨a, c, hi, rfl, S, h0, h1, q⟩ := h
    refine ⟨_, (pss_cons (ps_set (i := 2) sc_text.nd rfl (.inl rfl) (pe_call G_size (hr.mono (by omega)) (by rfl) D_size.g D_size.F.kp D_size.b .nil pass0 (pa_cons (pv 0) (pa_cons pe_int (pa_cons (pv 1) pa_nil)))))
      (pss_cons (ps_set (i := 3) sc_text.nd rfl (.inl rfl) (pe_lst pa_nil))
      (pss_cons (ps_for PassesOwn.never rfl (pi_range1 (by rfl) B.range (pa_cons (pv 2) pa_nil)) (pg_name (i := 4) sc_text.nd rfl (.inl rfl)) (pss_cons (ps_set (i := 5) sc_text.nd rfl (.inl rfl) (pe_call G_take (hr.mono (by omega)) (by rfl) D_take.g D_take.F.kp D_take.b .nil pass0 (pa_cons (pv 0) (pa_cons pe_int pa_nil))))
      (pss_one (ps_if (pt_cmpR op_eq (pv 5) pe_int (nomark _)) (pss_one (ps_expr (pe_bm PySem.F.plainAttrs_list PySem.F.slot_list_append PySem.F.type_list_append mt_append (pv 3) (pa_cons pe_str pa_nil)))) (pss_one (ps_if (pt_cmpR op_eq (pv 5) pe_int (nomark _)) (pss_one (ps_expr (pe_bm PySem.F.plainAttrs_list PySem.F.slot_list_append PySem.F.type_list_append mt_append (pv 3) (pa_cons pe_str pa_nil)))) (pss_one (ps_if (pt_cmpR op_lt (pv 5) pe_int (nomark _)) (pss_one (ps_expr (pe_bm PySem.F.plainAttrs_list PySem.F.slot_list_append PySem.F.type_list_append mt_append (pv 3) (pa_cons (pe_call G_pick (hr.mono (by omega)) (by rfl) D_pick.g D_pick.F.kp D_pick.b .nil pass0 (pa_cons (pv 0) (pa_cons pe_str pa_nil))) pa_nil)))) (pss_one (ps_expr (pe_bm PySem.F.plainAttrs_list PySem.F.slot_list_append PySem.F.type_list_append mt_append (pv 3) (pa_cons (pe_call G_pick (hr.mono (by omega)) (by rfl) D_pick.g D_pick.F.kp D_pick.b .nil pass0 (pa_cons (pv 0) (pa_cons (pe_call0 G_signsoftexts (hr.mono (by omega)) (by rfl) D_signsoftexts.g D_signsoftexts.F.kp D_signsoftexts.b .nil pass0) pa_nil))) pa_nil))))))))))))
      (pss_one (ps_ret (pe_m1 PySem.F.slot_str_join PySem.F.type_str_join (mt_joinK (K := K)) pe_str (pv 3))))))), ?_⟩
    walk_at "st"
    refine ⟨a, c, 0, hi, rfl, S, h0, by omega, fun v H1 S1 b1 ⟨many, e, m0, m1⟩ => ?_⟩
    subst e
    walk_at "st"
    refine ⟨by decide, fun p np => ?_⟩
    have pa := S1.ne1 np
    have pc := S1.ne2 np
    walk_at "st"
    refine ⟨by omega, by omega, ?_⟩
    refine r_range (fun i σ H' => (∃ x y : Option V, σ = [some (.ref a), some (.int hi), some (.int many), some (.ref p), x, y]) ∧ StoreAt H' a c ∧ But a H1 H' ∧ ∃ ws : List Str, ws.length = i ∧ (∀ x ∈ ws, x.length = 1) ∧ H' p = some (.lst (ws.map V.str)))
      ⟨⟨_, _, rfl⟩, S1.new np, But.new np, [], rfl, by simp, upd_same⟩ ?_ ?_
    · rintro i σ H2 hi2 ⟨⟨x, y, rfl⟩, S2, b2, ws, hl, h1s, hp⟩ N k
      walk_at "st"
      refine ⟨a, c, _, rfl, S2, by decide, fun v H3 S3 b3 ⟨r, e, r0, r1⟩ => ?_⟩
      subst e
      have hp3 := b3 p _ pa hp
      have fin : ∀ (H4 : Hp) (z : Str) (x y : Option V), StoreAt H4 a c → But a H3 H4 → z.length = 1 → H4 p = some (.lst (ws.map V.str)) → N [some (.ref a), some (.int hi), some (.int many), some (.ref p), x, y] (L2.upd H4 p (.lst (ws.map V.str ++ [.str z]))) := fun H4 z x y S4 b4 hz hp4 =>
        k _ _ ⟨⟨_, _, rfl⟩, S4.put pa pc, ((b2.trans b3).trans b4).putNew np, ws ++ [z], by rw [List.length_append, hl]; rfl, fun x hx => by
            rcases List.mem_append.mp hx with hx | hx
            · exact h1s x hx
            · rw [List.mem_singleton.mp hx]; exact hz, by rw [upd_same, List.map_append]; rfl⟩
      have hsz : (ws.map V.str).length < sizeLine := size_ok (by rw [List.length_map]; omega)
      walk_at "rt"
      refine ite2 (fun _ => ⟨.inl ⟨rfl, _, sq_of hp3⟩, _, hp3, hsz, fin H3 _ _ _ S3 (But.refl _ _) (by decide +kernel) hp3⟩) (fun _ => ite2 (fun _ => ⟨.inl ⟨rfl, _, sq_of hp3⟩, _, hp3, hsz, fin H3 _ _ _ S3 (But.refl _ _) (by decide +kernel) hp3⟩) (fun _ => ite2 (fun _ => ⟨.inl ⟨rfl, _, sq_of hp3⟩, ?_⟩) (fun _ => ⟨.inl ⟨rfl, _, sq_of hp3⟩, ?_⟩)))
      · refine ⟨a, c, _, rfl, S3, by decide +kernel, by decide +kernel, fun v H4 S4 b4 ⟨k', _, e⟩ => ?_⟩
        subst e
        walk_at "rt"
        exact ⟨_, b4 p _ pa hp3, hsz, fin H4 _ _ _ S4 b4 rfl (b4 p _ pa hp3)⟩
      · refine ⟨rfl, fun z hz hzl => ?_⟩
        refine ⟨a, c, _, rfl, S3, hz, Nat.le_trans hzl (by decide), fun v H4 S4 b4 ⟨k', _, e⟩ => ?_⟩
        subst e
        walk_at "rt"
        exact ⟨_, b4 p _ pa hp3, hsz, fin H4 _ _ _ S4 b4 rfl (b4 p _ pa hp3)⟩
    · rintro σ H2 ⟨⟨x, y, rfl⟩, S2, b2, ws, hl, h1s, hp⟩
      have hj := join0_len tl_emp h1s
      walk_at "rt"
      refine ⟨ws, sq_of hp, ?_, q _ _ S2 (b1.trans b2) ⟨_, rfl, by omega⟩⟩
      have e : (Str.ofString "").length = 0 := by decide +kernel
      rw [e, sum_ones ws h1s]
      omega
end
end K01
namespace K01
open PySem PySem.Spec PyProof.Rows L2 TL
local macro_rules | `(tactic| walk_at "rd") => `(tactic| simp only [start1, wipe, isR, isBool, isInt, isStr, isLst, isTup, tAsg, gName, gSub, tVar, tC, tOp, tUn, tTest, tIfS, tRet, tRetN, tDrop, tB, tAnd, tOr, tNot, tAndV, tOrV, tNotV, tIf, tCB, tCons, tNil, tNext, tCall, tBM, tTup, tLst, rI0, rI, rEq, rNe, scal, forR_eq, forR2_eq, forS_eq, forL_eq, lcL_eq, lcR_eq, lcS_eq, rLenX, rLenS, rMulS, rRepL, rCatL, tPart, tNoPart, CwR.tReplC, rAllK, rInSg, rNinSg, sgn_inj, rAddS, rInSt, tChain, tM1, tM0, rSplitN, rJoinN, exists_eq, rIntI, rIntB, rIntS, rStrI, rAbs, rOrd, rMin, rMax, rIxL, rIxX, rSetL, rAppend, rIxS, rSlS, rSlL, tSl, List.map_cons, List.map_nil, List.replicate_succ, List.replicate_zero, List.length_cons, List.length_nil, Nat.reduceSub, Nat.reduceAdd, Nat.zero_add, Nat.sub_self, List.getElem?_cons_zero, List.getElem?_cons_succ, List.set_cons_zero, List.set_cons_succ, List.append_nil, List.nil_append, List.cons_append, Option.some.injEq, not_true_eq_false, reduceCtorEq, exists_eq_left', exists_eq_left, exists_eq', exists_and_left, exists_and_right, V.int.injEq, V.str.injEq, V.bl.injEq, V.ref.injEq, List.cons.injEq, and_true, true_and, and_assoc, decide_eq_true_eq, Bool.not_eq_true', decide_eq_false_iff_not, ite_true, ite_false, if_true, if_false, Bool.not_true, Bool.not_false, Bool.false_eq_true, eq_self_iff_true, reduceIte, ne_eq, Int.reduceEq, not_false_eq_true])
local macro_rules | `(tactic| walk_at "rt") => `(tactic| try walk_at "rd")
local macro_rules | `(tactic| walk_at "st") => `(tactic| (walk_at "rt"; refine r_seq ?_; walk_at "rt"))
local macro_rules | `(tactic| walk_at "hp") => `(tactic| first | assumption | exact upd_same | (rw [upd_ne (by assumption)]; walk_at "hp"))
local macro_rules | `(tactic| walk_at "ex1") => `(tactic| ((with_reducible refine Exists.intro ?w (And.intro ?hx ?_)); (case hx => first | exact sq_of (by walk_at "hp") | exact .inl (sq_of (by walk_at "hp")) | exact rfl | (show _ = some (HO.lst _); walk_at "hp"))))
local macro_rules | `(tactic| walk_at "ex") => `(tactic| repeat (first | walk_at "ex1" | walk_at "rd"))
abbrev s_badname : Stmt := topS 67
theorem sc_badname : FnScope ["store", "name", "at", "kind"] ["store"] (defScope s_badname) := ⟨rfl, rfl, rfl, by decide +kernel, rfl, by decide +kernel, by decide +kernel⟩
/-- a text whose length lies between -/
def TextIn (l u : Nat) (v : V) : Prop := ∃ z : Str, v = .str z ∧ l ≤ z.length ∧ z.length ≤ u
def spTextIn (l u : Nat) : Sp := fun vs H Q _ => ∃ (a c : Addr), vs = [.ref a] ∧ StoreAt H a c ∧ Drawn H a c (TextIn l u) Q
theorem one_len (c : Nat) : (⟨#[c]⟩ : Str).length = 1 := rfl
section
variable {P : Program} {w : World} {K : PySem.W.Frag} {mg : Str → Option Value} {base : Heap}
theorem ok_name {f f_number f_pick : Addr} {fd fd_number fd_pick : FuncData} (B : Bi mg) (D : Dn K mg "_law_name" s_name ["store"] f fd)
    (D_number : Dn K mg "_law_number" s_number ["store", "low", "high"] f_number fd_number) (D_pick : Dn K mg "_law_pick" s_pick ["store", "row"] f_pick fd_pick)
    (G_number : FnOk P w K mg base CX0 4 f_number fd_number ["store", "low", "high"] spRange) (G_pick : FnOk P w K mg base CX0 3 f_pick fd_pick ["store", "row"] spPick) : FnOk P w K mg base CX0 5 f fd ["store"] (spTextIn 1 6) := by
  refine D.F.ok sc_name (fun vs H Q E h => ?_) (fun cdv A outer s H vs Q E hr h => ?_)
  · obtain ⟨a, c, rfl, _⟩ := h
    rfl
  · obtain ⟨a, c, rfl, S, q⟩ := h
    refine ⟨_, (pss_cons (ps_set (i := 1) sc_name.nd rfl (.inl rfl) (pe_call G_number (hr.mono (by omega)) (by rfl) D_number.g D_number.F.kp D_number.b .nil pass0 (pa_cons (pv 0) (pa_cons pe_int (pa_cons pe_int pa_nil)))))
      (pss_cons (ps_set (i := 2) sc_name.nd rfl (.inl rfl) (pe_call G_pick (hr.mono (by omega)) (by rfl) D_pick.g D_pick.F.kp D_pick.b .nil pass0 (pa_cons (pv 0) (pa_cons pe_str pa_nil))))
      (pss_cons (ps_for PassesOwn.never rfl (pi_range1 (by rfl) B.range (pa_cons (pe_op op_sub (pv 1) pe_int) pa_nil)) (pg_name (i := 3) sc_name.nd rfl (.inl rfl)) (pss_one (ps_set (i := 2) sc_name.nd rfl (.inl rfl) (pe_op op_addS (pv 2) (pe_call G_pick (hr.mono (by omega)) (by rfl) D_pick.g D_pick.F.kp D_pick.b .nil pass0 (pa_cons (pv 0) (pa_cons pe_str pa_nil)))))))
      (pss_one (ps_ret (pv 2)))))), ?_⟩
    walk_at "st"
    refine ⟨a, c, 1, 6, rfl, S, by decide, by decide, fun v H1 S1 b1 ⟨many, e, m0, m1⟩ => ?_⟩
    subst e
    walk_at "st"
    refine ⟨a, c, _, rfl, S1, by decide +kernel, by decide +kernel, fun v H2 S2 b2 ⟨k, _, e⟩ => ?_⟩
    subst e
    walk_at "st"
    refine ⟨by omega, by omega, ?_⟩
    refine r_range (fun i σ H' => (∃ (z : Str) (y : Option V), σ = [some (.ref a), some (.int many), some (.str z), y] ∧ z.length = i + 1) ∧ StoreAt H' a c ∧ But a H H')
      ⟨⟨_, _, rfl, rfl⟩, S2, b1.trans b2⟩ ?_ ?_
    · rintro i σ H3 hi ⟨⟨z, y, rfl, hz⟩, S3, b3⟩ N kk
      walk_at "rt"
      refine ⟨a, c, _, rfl, S3, by decide +kernel, by decide +kernel, fun v H4 S4 b4 ⟨k', _, e⟩ => ?_⟩
      subst e
      walk_at "rt"
      have one := one_len k'
      exact ⟨line_of (by omega), kk _ _ ⟨⟨z ++ (⟨#[k']⟩ : Str), _, rfl, by rw [str_len, hz, one_len]⟩, S4, b3.trans b4⟩⟩
    · rintro σ H3 ⟨⟨z, y, rfl, hz⟩, S3, b3⟩
      walk_at "rt"
      exact q _ _ S3 b3 ⟨_, rfl, by omega, by omega⟩
theorem ok_badname {f f_name f_take f_pick : Addr} {fd fd_name fd_take fd_pick : FuncData} (B : Bi mg) (D : Dn K mg "_law_bad_name" s_badname ["store"] f fd)
    (D_name : Dn K mg "_law_name" s_name ["store"] f_name fd_name) (D_take : Dn K mg "_law_take" s_take ["store", "many"] f_take fd_take) (D_pick : Dn K mg "_law_pick" s_pick ["store", "row"] f_pick fd_pick)
    (G_name : FnOk P w K mg base CX0 5 f_name fd_name ["store"] (spTextIn 1 6)) (G_take : FnOk P w K mg base CX0 2 f_take fd_take ["store", "many"] spTake) (G_pick : FnOk P w K mg base CX0 3 f_pick fd_pick ["store", "row"] spPick) : FnOk P w K mg base CX0 6 f fd ["store"] (spTextIn 0 50) := by
  refine D.F.ok sc_badname (fun vs H Q E h => ?_) (fun cdv A outer s H vs Q E hr h => ?_)
  · obtain ⟨a, c, rfl, _⟩ := h
    rfl
  · obtain ⟨a, c, rfl, S, q⟩ := h
    refine ⟨_, (pss_cons (ps_set (i := 1) sc_badname.nd rfl (.inl rfl) (pe_call G_name (hr.mono (by omega)) (by rfl) D_name.g D_name.F.kp D_name.b .nil pass0 (pa_cons (pv 0) pa_nil)))
      (pss_cons (ps_set (i := 2) sc_badname.nd rfl (.inl rfl) (pe_call G_take (hr.mono (by omega)) (by rfl) D_take.g D_take.F.kp D_take.b .nil pass0 (pa_cons (pv 0) (pa_cons (pe_callB call_lenS (by rfl) B.len PySem.boot_len (pa_cons (pv 1) pa_nil)) pa_nil))))
      (pss_cons (ps_set (i := 3) sc_badname.nd rfl (.inl rfl) (pe_call G_take (hr.mono (by omega)) (by rfl) D_take.g D_take.F.kp D_take.b .nil pass0 (pa_cons (pv 0) (pa_cons pe_int pa_nil))))
      (pss_cons (ps_if (pt_cmpR op_eq (pv 3) pe_int (nomark _)) (pss_one (ps_ret pe_str)) pss_nil)
      (pss_cons (ps_if (pt_cmpR op_eq (pv 3) pe_int (nomark _)) (pss_one (ps_ret (pe_op op_addS (pe_slice sl_str (pe_op op_addS (pv 1) pe_str) po_none (po_some pe_int)) (pe_call G_pick (hr.mono (by omega)) (by rfl) D_pick.g D_pick.F.kp D_pick.b .nil pass0 (pa_cons (pv 0) (pa_cons pe_str pa_nil)))))) pss_nil)
      (pss_cons (ps_if (pt_cmpR op_eq (pv 3) pe_int (nomark _)) (pss_one (ps_ret (pe_op op_addS (pe_call G_pick (hr.mono (by omega)) (by rfl) D_pick.g D_pick.F.kp D_pick.b .nil pass0 (pa_cons (pv 0) (pa_cons pe_str pa_nil))) (pe_slice sl_str (pv 1) (po_some pe_int) po_none)))) pss_nil)
      (pss_cons (ps_if (pt_cmpR op_eq (pv 3) pe_int (nomark _)) (pss_one (ps_ret (pe_op op_addS (pe_op op_addS (pe_slice sl_str (pv 1) po_none (po_some (pv 2))) (pe_call G_pick (hr.mono (by omega)) (by rfl) D_pick.g D_pick.F.kp D_pick.b .nil pass0 (pa_cons (pv 0) (pa_cons pe_str pa_nil)))) (pe_slice sl_str (pv 1) (po_some (pe_op op_add (pv 2) pe_int)) po_none)))) pss_nil)
      (pss_cons (ps_if (pt_cmpR op_eq (pv 3) pe_int (nomark _)) (pss_one (ps_ret (pe_op op_addS (pe_op op_addS (pe_op op_addS (pe_slice sl_str (pv 1) po_none (po_some (pv 2))) (pe_call G_pick (hr.mono (by omega)) (by rfl) D_pick.g D_pick.F.kp D_pick.b .nil pass0 (pa_cons (pv 0) (pa_cons pe_str pa_nil)))) (pe_slice sl_str (pv 1) (po_some (pe_op op_add (pv 2) pe_int)) po_none)) pe_str))) pss_nil)
      (pss_cons (ps_if (pt_cmpR op_eq (pv 3) pe_int (nomark _)) (pss_one (ps_ret (pe_op op_addS (pe_slice sl_str (pv 1) po_none (po_some pe_int)) (pe_call G_pick (hr.mono (by omega)) (by rfl) D_pick.g D_pick.F.kp D_pick.b .nil pass0 (pa_cons (pv 0) (pa_cons pe_str pa_nil)))))) pss_nil)
      (pss_cons (ps_if (pt_cmpR op_eq (pv 3) pe_int (nomark _)) (pss_one (ps_ret (pe_op op_addS (pe_call G_pick (hr.mono (by omega)) (by rfl) D_pick.g D_pick.F.kp D_pick.b .nil pass0 (pa_cons (pv 0) (pa_cons pe_str pa_nil))) (pe_slice sl_str (pv 1) po_none (po_some pe_int))))) pss_nil)
      (pss_cons (ps_if (pt_cmpR op_eq (pv 3) pe_int (nomark _)) (pss_one (ps_ret (pe_op op_mulS (pv 1) pe_int))) pss_nil)
      (pss_one (ps_ret (pe_call G_pick (hr.mono (by omega)) (by rfl) D_pick.g D_pick.F.kp D_pick.b .nil pass0 (pa_cons (pv 0) (pa_cons pe_str pa_nil)))))))))))))))), ?_⟩
    walk_at "st"
    refine ⟨a, c, rfl, S, fun v H1 S1 b1 ⟨z, e, z0, z1⟩ => ?_⟩
    subst e
    walk_at "st"
    refine ⟨line_of (by omega), a, c, _, rfl, S1, by omega, fun v H2 S2 b2 ⟨at_, e, a0, a1⟩ => ?_⟩
    subst e
    walk_at "st"
    refine ⟨a, c, _, rfl, S2, by decide, fun v H3 S3 b3 ⟨kd, e, k0, k1⟩ => ?_⟩
    subst e
    have b13 := (b1.trans b2).trans b3
    walk_at "st"
    refine ite2 (fun _ => q _ _ S3 b13 ⟨_, rfl, by decide +kernel, by decide +kernel⟩) (fun _ => ?_)
    walk_at "st"
    refine ite2 (fun _ => ?_) (fun _ => ?_)
    · have l7 : (Str.ofString "abcdef0").length = 7 := by decide +kernel
      have c1 := cutS_length (z ++ Str.ofString "abcdef0") none (some 6)
      have c2 := str_len z (Str.ofString "abcdef0")
      refine ⟨line_of (by omega), line_of (by omega), a, c, _, rfl, S3, by decide +kernel, by decide +kernel, fun v H4 S4 b4 ⟨k', _, e⟩ => ?_⟩
      subst e
      have o1 := one_len k'
      walk_at "rt"
      exact ⟨line_of (by omega), q _ _ S4 (b13.trans b4) ⟨_, rfl, Nat.zero_le _, by rw [str_len]; omega⟩⟩
    walk_at "st"
    refine ite2 (fun _ => ?_) (fun _ => ?_)
    · have c1 := cutS_length z (some 1) none
      refine ⟨a, c, _, rfl, S3, by decide +kernel, by decide +kernel, fun v H4 S4 b4 ⟨k', _, e⟩ => ?_⟩
      subst e
      have o1 := one_len k'
      walk_at "rt"
      exact ⟨line_of (by omega), line_of (by omega), q _ _ S4 (b13.trans b4) ⟨_, rfl, Nat.zero_le _, by rw [str_len]; omega⟩⟩
    walk_at "st"
    refine ite2 (fun _ => ?_) (fun _ => ?_)
    · have c1 := cutS_length z none (some at_)
      have c2 := cutS_length z (some (at_ + 1)) none
      refine ⟨line_of (by omega), a, c, _, rfl, S3, by decide +kernel, by decide +kernel, fun v H4 S4 b4 ⟨k', _, e⟩ => ?_⟩
      subst e
      have o1 := one_len k'
      have c3 := str_len (cutS z none (some at_)) (⟨#[k']⟩ : Str)
      walk_at "rt"
      exact ⟨line_of (by omega), line_of (by omega), line_of (by omega), q _ _ S4 (b13.trans b4) ⟨_, rfl, Nat.zero_le _, by rw [str_len]; omega⟩⟩
    walk_at "st"
    refine ite2 (fun _ => ?_) (fun _ => ?_)
    · have c1 := cutS_length z none (some at_)
      have c2 := cutS_length z (some (at_ + 1)) none
      have la : (Str.ofString "a").length = 1 := by decide +kernel
      refine ⟨line_of (by omega), a, c, _, rfl, S3, by decide +kernel, by decide +kernel, fun v H4 S4 b4 ⟨k', _, e⟩ => ?_⟩
      subst e
      have o1 := one_len k'
      have c3 := str_len (cutS z none (some at_)) (⟨#[k']⟩ : Str)
      have c4 := str_len (cutS z none (some at_) ++ (⟨#[k']⟩ : Str)) (cutS z (some (at_ + 1)) none)
      walk_at "rt"
      exact ⟨line_of (by omega), line_of (by omega), line_of (by omega), line_of (by omega), q _ _ S4 (b13.trans b4) ⟨_, rfl, Nat.zero_le _, by rw [str_len]; omega⟩⟩
    walk_at "st"
    refine ite2 (fun _ => ?_) (fun _ => ?_)
    · have c1 := cutS_length z none (some 5)
      refine ⟨line_of (by omega), a, c, _, rfl, S3, by decide +kernel, by decide +kernel, fun v H4 S4 b4 ⟨k', _, e⟩ => ?_⟩
      subst e
      have o1 := one_len k'
      walk_at "rt"
      exact ⟨line_of (by omega), q _ _ S4 (b13.trans b4) ⟨_, rfl, Nat.zero_le _, by rw [str_len]; omega⟩⟩
    walk_at "st"
    refine ite2 (fun _ => ?_) (fun _ => ?_)
    · have c1 := cutS_length z none (some 5)
      refine ⟨a, c, _, rfl, S3, by decide +kernel, by decide +kernel, fun v H4 S4 b4 ⟨k', _, e⟩ => ?_⟩
      subst e
      have o1 := one_len k'
      walk_at "rt"
      exact ⟨line_of (by omega), line_of (by omega), q _ _ S4 (b13.trans b4) ⟨_, rfl, Nat.zero_le _, by rw [str_len]; omega⟩⟩
    walk_at "st"
    refine ite2 (fun _ => ?_) (fun _ => ?_)
    · have c1 := mul_le (z := z) (n := 7) (L := 6) (N := 7) z1 (by decide)
      exact ⟨6, z1, 7, by decide, by decide, by decide, by decide, q _ _ S3 b13 ⟨_, rfl, Nat.zero_le _, by omega⟩⟩
    walk_at "rt"
    refine ⟨a, c, _, rfl, S3, by decide +kernel, by decide +kernel, fun v H4 S4 b4 ⟨k', _, e⟩ => ?_⟩
    subst e
    exact q _ _ S4 (b13.trans b4) ⟨_, rfl, Nat.zero_le _, by rw [one_len]; decide⟩
end
end K01
namespace K01
open PySem PySem.Spec PyProof.Rows L2 TL
local macro_rules | `(tactic| walk_at "rd") => `(tactic| simp only [start1, wipe, isR, isBool, isInt, isStr, isLst, isTup, tAsg, gName, gSub, tVar, tC, tOp, tUn, tTest, tIfS, tRet, tRetN, tDrop, tB, tAnd, tOr, tNot, tAndV, tOrV, tNotV, tIf, tCB, tCons, tNil, tNext, tCall, tBM, tTup, tLst, rI0, rI, rEq, rNe, scal, forR_eq, forR2_eq, forS_eq, forL_eq, lcL_eq, lcR_eq, lcS_eq, rLenX, rLenS, rMulS, rRepL, rCatL, tPart, tNoPart, CwR.tReplC, rAllK, rInSg, rNinSg, sgn_inj, rAddS, rInSt, tChain, tM1, tM0, rSplitN, rJoinN, exists_eq, rIntI, rIntB, rIntS, rStrI, rAbs, rOrd, rMin, rMax, rIxL, rIxX, rSetL, rAppend, rIxS, rSlS, rSlL, tSl, List.map_cons, List.map_nil, List.replicate_succ, List.replicate_zero, List.length_cons, List.length_nil, Nat.reduceSub, Nat.reduceAdd, Nat.zero_add, Nat.sub_self, List.getElem?_cons_zero, List.getElem?_cons_succ, List.set_cons_zero, List.set_cons_succ, List.append_nil, List.nil_append, List.cons_append, Option.some.injEq, not_true_eq_false, reduceCtorEq, exists_eq_left', exists_eq_left, exists_eq', exists_and_left, exists_and_right, V.int.injEq, V.str.injEq, V.bl.injEq, V.ref.injEq, List.cons.injEq, and_true, true_and, and_assoc, decide_eq_true_eq, Bool.not_eq_true', decide_eq_false_iff_not, ite_true, ite_false, if_true, if_false, Bool.not_true, Bool.not_false, Bool.false_eq_true, eq_self_iff_true, reduceIte, ne_eq, Int.reduceEq, not_false_eq_true])
local macro_rules | `(tactic| walk_at "rt") => `(tactic| try walk_at "rd")
local macro_rules | `(tactic| walk_at "st") => `(tactic| (walk_at "rt"; refine r_seq ?_; walk_at "rt"))
local macro_rules | `(tactic| walk_at "hp") => `(tactic| first | assumption | exact upd_same | (rw [upd_ne (by assumption)]; walk_at "hp"))
local macro_rules | `(tactic| walk_at "ex1") => `(tactic| ((with_reducible refine Exists.intro ?w (And.intro ?hx ?_)); (case hx => first | exact sq_of (by walk_at "hp") | exact .inl (sq_of (by walk_at "hp")) | exact rfl | (show _ = some (HO.lst _); walk_at "hp"))))
local macro_rules | `(tactic| walk_at "ex") => `(tactic| repeat (first | walk_at "ex1" | walk_at "rd"))
abbrev s_anytext : Stmt := topS 71
theorem sc_anytext : FnScope ["store", "kind", "name", "at", "odd"] ["store"] (defScope s_anytext) := ⟨rfl, rfl, rfl, by decide +kernel, rfl, by decide +kernel, by decide +kernel⟩
def spPickL : Sp := fun vs H Q _ => ∃ (a c p : Addr) (xs : List V), vs = [.ref a, .ref p] ∧ StoreAt H a c ∧ H p = some (.lst xs) ∧ p ≠ a ∧ xs ≠ [] ∧ xs.length ≤ 1000 ∧ Drawn H a c (fun v => v ∈ xs) Q
theorem lits_in {u : Nat} {v : V} (ws : List Str) (h : (ws.all fun z => decide (z.length ≤ u)) = true) (hv : v ∈ ws.map V.str) : TextIn 0 u v := by
  obtain ⟨z, hz, rfl⟩ := List.mem_map.mp hv
  exact ⟨z, rfl, Nat.zero_le _, of_decide_eq_true (List.all_eq_true.mp h z hz)⟩
section
variable {P : Program} {w : World} {K : PySem.W.Frag} {mg : Str → Option Value} {base : Heap}
theorem ok_pickL {f f_take : Addr} {fd fd_take : FuncData} (B : Bi mg) (D : Dn K mg "_law_pick" s_pick ["store", "row"] f fd) (D_take : Dn K mg "_law_take" s_take ["store", "many"] f_take fd_take)
    (G_take : FnOk P w K mg base CX0 2 f_take fd_take ["store", "many"] spTake) : FnOk P w K mg base CX0 3 f fd ["store", "row"] spPickL := by
  refine D.F.ok sc_pick (fun vs H Q E h => ?_) (fun cdv A outer s H vs Q E hr h => ?_)
  · obtain ⟨a, c, p, xs, rfl, _⟩ := h
    rfl
  · obtain ⟨a, c, p, xs, rfl, S, hp, hpa, hne, hl, q⟩ := h
    refine ⟨_, (pss_cons (ps_if (pt_cmpR op_eq (pe_callB (call_lenXK (K := K)) (by rfl) B.len PySem.boot_len (pa_cons (pv 1) pa_nil)) pe_int (nomark _)) (pss_one (ps_ret pe_non)) pss_nil)
      (pss_one (ps_ret (pe_ix (ix_listK (K := K)) (pv 1) (pe_call G_take (hr.mono (by omega)) (by rfl) D_take.g D_take.F.kp D_take.b .nil pass0 (pa_cons (pv 0) (pa_cons (pe_callB (call_lenXK (K := K)) (by rfl) B.len PySem.boot_len (pa_cons (pv 1) pa_nil)) pa_nil))) (fun _ _ => rfl)))))
, ?_⟩
    have hpos : 0 < xs.length := List.length_pos_iff.mpr hne
    walk_at "st"
    refine ⟨_, .inl (sq_of hp), ite2 (fun e => absurd e (by omega)) (fun _ => ?_)⟩
    walk_at "rt"
    refine ⟨_, .inl (sq_of hp), ?_⟩
    refine ⟨a, c, _, rfl, S, by omega, fun v H' S' b' ⟨r, e, r0, r1⟩ => ?_⟩
    subst e
    obtain ⟨k, hk, hk2⟩ := atI_get (xs := xs) (i := r) r0 (by omega)
    walk_at "rt"
    exact ⟨_, sq_of (b' p _ hpa hp), _, hk, q _ _ S' b' (List.mem_of_getElem? hk2)⟩
theorem ok_anytext {f f_name f_take f_pick f_number f_badname f_text f_signs : Addr} {fd fd_name fd_take fd_pick fd_number fd_badname fd_text fd_signs : FuncData} (B : Bi mg) (D : Dn K mg "_law_any_text" s_anytext ["store"] f fd)
    (D_name : Dn K mg "_law_name" s_name ["store"] f_name fd_name) (D_take : Dn K mg "_law_take" s_take ["store", "many"] f_take fd_take) (D_pick : Dn K mg "_law_pick" s_pick ["store", "row"] f_pick fd_pick)
    (D_number : Dn K mg "_law_number" s_number ["store", "low", "high"] f_number fd_number) (D_badname : Dn K mg "_law_bad_name" s_badname ["store"] f_badname fd_badname) (D_text : Dn K mg "_law_text" s_text ["store", "high"] f_text fd_text)
    (D_signsoftexts : Dn K mg "_law_signs_of_texts" s_signsoftexts [] f_signs fd_signs)
    (G_name : FnOk P w K mg base CX0 5 f_name fd_name ["store"] (spTextIn 1 6)) (G_take : FnOk P w K mg base CX0 2 f_take fd_take ["store", "many"] spTake) (G_pick : FnOk P w K mg base CX0 3 f_pick fd_pick ["store", "row"] spPick)
    (G_pickL : FnOk P w K mg base CX0 3 f_pick fd_pick ["store", "row"] spPickL) (G_number : FnOk P w K mg base CX0 4 f_number fd_number ["store", "low", "high"] spRange) (G_badname : FnOk P w K mg base CX0 6 f_badname fd_badname ["store"] (spTextIn 0 50))
    (G_text : FnOk P w K mg base CX0 4 f_text fd_text ["store", "high"] spText) (G_signsoftexts : FnOk P w K mg base CX0 1 f_signs fd_signs [] spSigns) : FnOk P w K mg base CX0 7 f fd ["store"] (spTextIn 0 20000) := by
  refine D.F.ok sc_anytext (fun vs H Q E h => ?_) (fun cdv A outer s H vs Q E hr h => ?_)
  · obtain ⟨a, c, rfl, _⟩ := h
    rfl
  · obtain ⟨a, c, rfl, S, q⟩ := h
    refine ⟨_, (pss_cons (ps_set (i := 1) sc_anytext.nd rfl (.inl rfl) (pe_call G_take (hr.mono (by omega)) (by rfl) D_take.g D_take.F.kp D_take.b .nil pass0 (pa_cons (pv 0) (pa_cons pe_int pa_nil))))
      (pss_cons (ps_set (i := 2) sc_anytext.nd rfl (.inl rfl) (pe_call G_name (hr.mono (by omega)) (by rfl) D_name.g D_name.F.kp D_name.b .nil pass0 (pa_cons (pv 0) pa_nil)))
      (pss_cons (ps_set (i := 3) sc_anytext.nd rfl (.inl rfl) (pe_call G_take (hr.mono (by omega)) (by rfl) D_take.g D_take.F.kp D_take.b .nil pass0 (pa_cons (pv 0) (pa_cons (pe_callB call_lenS (by rfl) B.len PySem.boot_len (pa_cons (pv 2) pa_nil)) pa_nil))))
      (pss_cons (ps_if (pt_cmpR op_lt (pv 1) pe_int (nomark _)) (pss_one (ps_ret (pv 2))) pss_nil)
      (pss_cons (ps_if (pt_cmpR op_lt (pv 1) pe_int (nomark _)) (pss_one (ps_ret (pe_call G_badname (hr.mono (by omega)) (by rfl) D_badname.g D_badname.F.kp D_badname.b .nil pass0 (pa_cons (pv 0) pa_nil)))) pss_nil)
      (pss_cons (ps_if (pt_cmpR op_lt (pv 1) pe_int (nomark _)) (pss_one (ps_ret (pe_op op_addS (pe_op op_addS (pe_slice sl_str (pv 2) po_none (po_some (pv 3))) (pe_call G_pick (hr.mono (by omega)) (by rfl) D_pick.g D_pick.F.kp D_pick.b .nil pass0 (pa_cons (pv 0) (pa_cons (pe_op op_addS (pe_call0 G_signsoftexts (hr.mono (by omega)) (by rfl) D_signsoftexts.g D_signsoftexts.F.kp D_signsoftexts.b .nil pass0) pe_str) pa_nil)))) (pe_slice sl_str (pv 2) (po_some (pe_op op_add (pv 3) pe_int)) po_none)))) pss_nil)
      (pss_cons (ps_if (pt_cmpR op_eq (pv 1) pe_int (nomark _)) (pss_one (ps_ret (pe_op op_mulS (pv 2) (pe_call G_number (hr.mono (by omega)) (by rfl) D_number.g D_number.F.kp D_number.b .nil pass0 (pa_cons (pv 0) (pa_cons pe_int (pa_cons pe_int pa_nil))))))) pss_nil)
      (pss_cons (ps_if (pt_cmpR op_eq (pv 1) pe_int (nomark _)) (pss_cons (ps_set (i := 4) sc_anytext.nd rfl (.inl rfl) (pe_lst (pa_cons pe_str (pa_cons pe_str (pa_cons pe_str (pa_cons pe_str (pa_cons pe_str (pa_cons pe_str (pa_cons pe_str (pa_cons pe_str (pa_cons pe_str (pa_cons pe_str (pa_cons pe_str (pa_cons pe_str pa_nil))))))))))))))
      (pss_one (ps_ret (pe_call G_pickL (hr.mono (by omega)) (by rfl) D_pick.g D_pick.F.kp D_pick.b .nil pass0 (pa_cons (pv 0) (pa_cons (pv 4) pa_nil)))))) pss_nil)
      (pss_one (ps_ret (pe_call G_text (hr.mono (by omega)) (by rfl) D_text.g D_text.F.kp D_text.b .nil pass0 (pa_cons (pv 0) (pa_cons pe_int pa_nil))))))))))))), ?_⟩
    walk_at "st"
    refine ⟨a, c, _, rfl, S, by decide, fun v H1 S1 b1 ⟨kd, e, k0, k1⟩ => ?_⟩
    subst e
    walk_at "st"
    refine ⟨a, c, rfl, S1, fun v H2 S2 b2 ⟨z, e, z0, z1⟩ => ?_⟩
    subst e
    walk_at "st"
    refine ⟨line_of (by omega), a, c, _, rfl, S2, by omega, fun v H3 S3 b3 ⟨at_, e, a0, a1⟩ => ?_⟩
    subst e
    have b13 := (b1.trans b2).trans b3
    walk_at "st"
    refine ite2 (fun _ => q _ _ S3 b13 ⟨_, rfl, Nat.zero_le _, by omega⟩) (fun _ => ?_)
    walk_at "st"
    refine ite2 (fun _ => ?_) (fun _ => ?_)
    · refine ⟨a, c, rfl, S3, fun v H4 S4 b4 ⟨y, e, y0, y1⟩ => ?_⟩
      subst e
      exact q _ _ S4 (b13.trans b4) ⟨_, rfl, Nat.zero_le _, by omega⟩
    walk_at "st"
    refine ite2 (fun _ => ?_) (fun _ => ?_)
    · have c1 := cutS_length z none (some at_)
      have c2 := cutS_length z (some (at_ + 1)) none
      refine ⟨line_of (by omega), rfl, fun y hy hyl => ?_⟩
      have ln : (Str.ofString "\n").length = 1 := by decide +kernel
      have c0 := str_len y (Str.ofString "\n")
      walk_at "rt"
      refine ⟨line_of (by omega), a, c, _, rfl, S3, fun e => ?_, by omega, fun v H4 S4 b4 ⟨k', _, e⟩ => ?_⟩
      · have e2 : (y ++ Str.ofString "\n").cps.toList.length = 0 := by rw [e]; rfl
        have e3 : (y ++ Str.ofString "\n").length = 0 := e2
        omega
      subst e
      have o1 := one_len k'
      have c3 := str_len (cutS z none (some at_)) (⟨#[k']⟩ : Str)
      walk_at "rt"
      exact ⟨line_of (by omega), line_of (by omega), line_of (by omega), q _ _ S4 (b13.trans b4) ⟨_, rfl, Nat.zero_le _, by rw [str_len]; omega⟩⟩
    walk_at "st"
    refine ite2 (fun _ => ?_) (fun _ => ?_)
    · refine ⟨a, c, 0, 3333, rfl, S3, by decide, by decide, fun v H4 S4 b4 ⟨n, e, n0, n1⟩ => ?_⟩
      subst e
      have c1 := mul_le (z := z) (n := n) (L := 6) (N := 3333) z1 (by omega)
      walk_at "rt"
      exact ⟨6, z1, 3333, by omega, by omega, by decide, by decide, q _ _ S4 (b13.trans b4) ⟨_, rfl, Nat.zero_le _, by omega⟩⟩
    walk_at "st"
    refine ite2 (fun _ => ?_) (fun _ => ?_)
    · refine ⟨by decide, fun p np => ?_⟩
      have pa := S3.ne1 np
      walk_at "rt"
      refine ⟨a, c, p, _, rfl, S3.new np, upd_same, pa, by simp, by simp, fun v H4 S4 b4 hv => ?_⟩
      exact q _ _ S4 (((b13.trans (But.new np))).trans b4) (lits_in (["", "Dark", "darkk", "ligh", " light", "dark\n", "D", "dl", "dd", ".", "-", "dark light"].map Str.ofString) (by decide +kernel) hv)
    walk_at "rt"
    refine ⟨a, c, 30, rfl, S3, by decide, by decide, fun v H4 S4 b4 ⟨y, e, y1⟩ => ?_⟩
    subst e
    exact q _ _ S4 (b13.trans b4) ⟨_, rfl, Nat.zero_le _, by omega⟩
end
end K01
namespace K01
open PySem PySem.Spec PyProof.Rows L2 TL
local macro_rules | `(tactic| walk_at "rd") => `(tactic| simp only [start1, wipe, isR, isBool, isInt, isStr, isLst, isTup, tAsg, gName, gSub, tVar, tC, tOp, tUn, tTest, tIfS, tRet, tRetN, tDrop, tB, tAnd, tOr, tNot, tAndV, tOrV, tNotV, tIf, tCB, tCons, tNil, tNext, tCall, tBM, tTup, tLst, rI0, rI, rEq, rNe, scal, forR_eq, forR2_eq, forS_eq, forL_eq, lcL_eq, lcR_eq, lcS_eq, rLenX, rLenS, rMulS, rRepL, rCatL, tPart, tNoPart, CwR.tReplC, rAllK, rInSg, rNinSg, sgn_inj, rAddS, rInSt, tChain, tM1, tM0, rSplitN, rJoinN, exists_eq, rIntI, rIntB, rIntS, rStrI, rAbs, rOrd, rMin, rMax, rIxL, rIxX, rSetL, rAppend, rIxS, rSlS, rSlL, tSl, List.map_cons, List.map_nil, List.replicate_succ, List.replicate_zero, List.length_cons, List.length_nil, Nat.reduceSub, Nat.reduceAdd, Nat.zero_add, Nat.sub_self, List.getElem?_cons_zero, List.getElem?_cons_succ, List.set_cons_zero, List.set_cons_succ, List.append_nil, List.nil_append, List.cons_append, Option.some.injEq, not_true_eq_false, reduceCtorEq, exists_eq_left', exists_eq_left, exists_eq', exists_and_left, exists_and_right, V.int.injEq, V.str.injEq, V.bl.injEq, V.ref.injEq, List.cons.injEq, and_true, true_and, and_assoc, decide_eq_true_eq, Bool.not_eq_true', decide_eq_false_iff_not, ite_true, ite_false, if_true, if_false, Bool.not_true, Bool.not_false, Bool.false_eq_true, eq_self_iff_true, reduceIte, ne_eq, Int.reduceEq, not_false_eq_true])
local macro_rules | `(tactic| walk_at "rt") => `(tactic| try walk_at "rd")
local macro_rules | `(tactic| walk_at "st") => `(tactic| (walk_at "rt"; refine r_seq ?_; walk_at "rt"))
local macro_rules | `(tactic| walk_at "hp") => `(tactic| first | assumption | exact upd_same | (rw [upd_ne (by assumption)]; walk_at "hp"))
local macro_rules | `(tactic| walk_at "ex1") => `(tactic| ((with_reducible refine Exists.intro ?w (And.intro ?hx ?_)); (case hx => first | exact sq_of (by walk_at "hp") | exact .inl (sq_of (by walk_at "hp")) | exact rfl | (show _ = some (HO.lst _); walk_at "hp"))))
local macro_rules | `(tactic| walk_at "ex") => `(tactic| repeat (first | walk_at "ex1" | walk_at "rd"))
abbrev s_near : Stmt := topS 72
theorem sc_near : FnScope ["store", "low", "high", "kind", "spots", "number"] ["store", "low", "high"] (defScope s_near) := ⟨rfl, rfl, rfl, by decide +kernel, rfl, by decide +kernel, by decide +kernel⟩
/-- a value, and whether it is a number -/
def Thing (x : V) (b : Bool) : Prop := (b = false ∧ ((∃ k, x = .bl k) ∨ x = .non ∨ TextIn 0 10 x)) ∨ (b = true ∧ ∃ n : Int, x = .int n ∧ 1 - 10 ^ 20 ≤ n ∧ n ≤ 10 ^ 20 - 1)
def spNear : Sp := fun vs H Q _ => ∃ (a c : Addr) (lo hi : Int), vs = [.ref a, .int lo, .int hi] ∧ StoreAt H a c ∧ -(10 ^ 21) ≤ lo ∧ lo ≤ 10 ^ 21 ∧ -(10 ^ 21) ≤ hi ∧ hi ≤ 10 ^ 21 ∧
  ∀ p x b H', StoreAt H' a c → But a H H' → H' p = some (.tup [x, .bl b]) → Thing x b → Q (.ref p) H'
section
variable {P : Program} {w : World} {K : PySem.W.Frag} {mg : Str → Option Value} {base : Heap}
theorem ok_near {f f_take f_pick f_number : Addr} {fd fd_take fd_pick fd_number : FuncData} (B : Bi mg) (D : Dn K mg "_law_near" s_near ["store", "low", "high"] f fd)
    (D_take : Dn K mg "_law_take" s_take ["store", "many"] f_take fd_take) (D_pick : Dn K mg "_law_pick" s_pick ["store", "row"] f_pick fd_pick) (D_number : Dn K mg "_law_number" s_number ["store", "low", "high"] f_number fd_number)
    (G_take : FnOk P w K mg base CX0 2 f_take fd_take ["store", "many"] spTake) (G_pickL : FnOk P w K mg base CX0 3 f_pick fd_pick ["store", "row"] spPickL) (G_number : FnOk P w K mg base CX0 4 f_number fd_number ["store", "low", "high"] spRange) : FnOk P w K mg base CX0 5 f fd ["store", "low", "high"] spNear := by
  refine D.F.ok sc_near (fun vs H Q E h => ?_) (fun cdv A outer s H vs Q E hr h => ?_)
  · obtain ⟨a, c, lo, hi, rfl, _⟩ := h
    rfl
  · obtain ⟨a, c, lo, hi, rfl, S, l0, l1, h0, h1, q⟩ := h
    refine ⟨_, (pss_cons (ps_set (i := 3) sc_near.nd rfl (.inl rfl) (pe_call G_take (hr.mono (by omega)) (by rfl) D_take.g D_take.F.kp D_take.b .nil pass0 (pa_cons (pv 0) (pa_cons pe_int pa_nil))))
      (pss_cons (ps_if (pt_cmpR op_lt (pv 3) pe_int (nomark _)) (pss_one (ps_ret (pe_tup (pa_cons (pe_ix (ix_listK (K := K)) (pe_lst (pa_cons pe_bl (pa_cons pe_bl (pa_cons pe_non pa_nil)))) (pv 3) (fun _ _ => rfl)) (pa_cons pe_bl pa_nil))))) pss_nil)
      (pss_cons (ps_if (pt_cmpR op_eq (pv 3) pe_int (nomark _)) (pss_one (ps_ret (pe_tup (pa_cons (pe_call G_pickL (hr.mono (by omega)) (by rfl) D_pick.g D_pick.F.kp D_pick.b .nil pass0 (pa_cons (pv 0) (pa_cons (pe_lst (pa_cons pe_str (pa_cons pe_str (pa_cons pe_str (pa_cons pe_str (pa_cons pe_str (pa_cons pe_str (pa_cons pe_str (pa_cons pe_str pa_nil))))))))) pa_nil))) (pa_cons pe_bl pa_nil))))) pss_nil)
      (pss_cons (ps_set (i := 4) sc_near.nd rfl (.inl rfl) (pe_lst (pa_cons (pe_op op_sub (pv 1) pe_int) (pa_cons (pv 1) (pa_cons (pe_op op_add (pv 1) pe_int) (pa_cons (pe_op op_sub (pv 2) pe_int) (pa_cons (pv 2) (pa_cons (pe_op op_add (pv 2) pe_int) (pa_cons pe_int (pa_cons pe_int (pa_cons (pe_op op_fdivW (pe_callTy call_intI (by rfl) B.int_ (by decide +kernel) (pa_cons (pe_op op_add (pv 1) (pv 2)) pa_nil)) pe_int) pa_nil)))))))))))
      (pss_cons (ps_set (i := 5) sc_near.nd rfl (.inl rfl) (pe_call G_pickL (hr.mono (by omega)) (by rfl) D_pick.g D_pick.F.kp D_pick.b .nil pass0 (pa_cons (pv 0) (pa_cons (pe_op op_catL (pv 4) (pe_lst (pa_cons (pe_call G_number (hr.mono (by omega)) (by rfl) D_number.g D_number.F.kp D_number.b .nil pass0 (pa_cons (pv 0) (pa_cons (pe_op op_sub pe_int (pe_op op_pow pe_int pe_int)) (pa_cons (pe_op op_sub (pe_op op_pow pe_int pe_int) pe_int) pa_nil)))) pa_nil))) pa_nil))))
      (pss_one (ps_ret (pe_tup (pa_cons (pe_callB (call_maxI rfl) (by rfl) B.max (by decide +kernel) (pa_cons (pe_op op_sub pe_int (pe_op op_pow pe_int pe_int)) (pa_cons (pe_callB (call_minI rfl) (by rfl) B.min (by decide +kernel) (pa_cons (pe_op op_sub (pe_op op_pow pe_int pe_int) pe_int) (pa_cons (pv 5) pa_nil))) pa_nil))) (pa_cons pe_bl pa_nil)))))))))), ?_⟩
    walk_at "st"
    refine ⟨a, c, _, rfl, S, by decide, fun v H1 S1 b1 ⟨kd, e, k0, k1⟩ => ?_⟩
    subst e
    walk_at "st"
    refine ite2 (fun hk => ?_) (fun _ => ?_)
    · have hk3 : kd = 0 ∨ kd = 1 ∨ kd = 2 := by omega
      rcases hk3 with rfl | rfl | rfl
      · exact ⟨by decide, fun p np => ⟨_, sq_of upd_same, _, rfl, by decide, fun p1 n1 => q p1 _ _ _ ((S1.new np).new n1) ((b1.trans (But.new np)).trans (But.new n1)) upd_same (.inl ⟨rfl, .inl ⟨_, rfl⟩⟩)⟩⟩
      · exact ⟨by decide, fun p np => ⟨_, sq_of upd_same, _, rfl, by decide, fun p1 n1 => q p1 _ _ _ ((S1.new np).new n1) ((b1.trans (But.new np)).trans (But.new n1)) upd_same (.inl ⟨rfl, .inl ⟨_, rfl⟩⟩)⟩⟩
      · exact ⟨by decide, fun p np => ⟨_, sq_of upd_same, _, rfl, by decide, fun p1 n1 => q p1 _ _ _ ((S1.new np).new n1) ((b1.trans (But.new np)).trans (But.new n1)) upd_same (.inl ⟨rfl, .inr (.inl rfl)⟩)⟩⟩
    walk_at "st"
    refine ite2 (fun hk => ?_) (fun _ => ?_)
    · refine ⟨by decide, fun p np => ?_⟩
      refine ⟨a, c, p, _, rfl, S1.new np, upd_same, S1.ne1 np, by simp, by simp, fun v H4 S4 b4 hv => ⟨by decide, fun p1 n1 => q p1 _ _ _ (S4.new n1) (((b1.trans (But.new np)).trans b4).trans (But.new n1)) upd_same ?_⟩⟩
      exact .inl ⟨rfl, .inr (.inr (lits_in (["", "0", "1", "-1", "True", "None", "a", "7 "].map Str.ofString) (by decide +kernel) hv))⟩
    walk_at "st"
    refine ⟨⟨by decide, by decide⟩, by decide, fun p np => ?_⟩
    walk_at "st"
    have e20 : (10 : Int) ^ Int.toNat 20 = 10 ^ 20 := rfl
    rw [e20]
    have cp : CPow 10 20 := ⟨by decide, by decide, by decide⟩
    refine ⟨cp, cp, a, c, _, _, rfl, S1.new np, by omega, by omega, fun v H4 S4 b4 ⟨n, e, n0, n1⟩ => ⟨by decide, fun p1 np1 => ?_⟩⟩
    subst e
    have pa := S1.ne1 np
    have e1 : H4 p = some _ := b4 p _ pa upd_same
    have hp1 : p ≠ p1 := fun z => by
      rw [← z, e1] at np1
      cases np1
    have S5 : StoreAt (L2.upd H4 p1 (.lst [V.int n])) a c := S4.new np1
    refine ⟨_, (upd_ne hp1).trans e1, _, upd_same, by simp only [List.length_cons, List.length_nil]; decide, fun p2 np2 => ?_⟩
    have b5 : But a H (L2.upd H4 p1 (.lst [V.int n])) := ((b1.trans (But.new np)).trans b4).trans (But.new np1)
    refine ⟨a, c, p2, _, rfl, S5.new np2, upd_same, S5.ne1 np2, by simp, by simp, fun v H6 S6 b6 hv => ?_⟩
    have hv : ∃ x : Int, v = .int x := by
      simp only [List.cons_append, List.nil_append, List.mem_cons, List.not_mem_nil, or_false] at hv
      rcases hv with h | h | h | h | h | h | h | h | h | h <;> exact ⟨_, h⟩
    obtain ⟨x, rfl⟩ := hv
    refine ⟨cp, cp, x, rfl, by decide, fun p3 np3 => q p3 _ _ _ (S6.new np3) (((b5.trans (But.new np2)).trans b6).trans (But.new np3)) upd_same (.inr ⟨rfl, _, rfl, ?_, ?_⟩)⟩
    · split <;> (try split) <;> omega
    · split <;> (try split) <;> omega
end
end K01
/-! a list comprehension where p's exception is handled -/
namespace HotLc
open PySem PySem.Spec PyProof.Rows L2 L2H
/-- the block's context, p pinned in it -/
abbrev hbk (X : Cx) (p : Addr × Obj) (s : Shared) (H : Hp) (sc : Scope) (ce : Env) (fp : List Addr) : Cx := (X.blk s H sc ce fp).tr [p] (fun _ _ => False)
theorem hot_hbk {X : Cx} {p : Addr × Obj} {s : Shared} {H : Hp} {sc : Scope} {ce : Env} {fp : List Addr} (hot : Hot1 X.A p) : HotC (hbk X p s H sc ce fp) := ⟨p, hot, List.mem_singleton.mpr rfl⟩
section
variable {X : Cx} {elt tg iter : Expr} {ifs : List Expr} {scope : Scope} {own : List (Str × Nat)} {pos : Pos} {wi : TI} {g : TG} {tt : TT} {te : TE}
/-- what the block's pieces are to be -/
structure Parts (X : Cx) (p : Addr × Obj) (scope : Scope) (elt tg : Expr) (ifs : List Expr) (g : TG) (tt : TT) (te : TE) : Prop where
  tgt : ∀ s H C cl fp, PG (hbk X p s H scope (compEnvC scope cl C X.env) fp) tg g
  tst : ∀ s H C cl fp, PTs (hbk X p s H scope (compEnvC scope cl C X.env) fp) ifs tt
  elm : ∀ s H C cl fp, PE (hbk X p s H scope (compEnvC scope cl C X.env) fp) elt te
/-- the state at a turn's head -/
def Head (B : Cx) (fp : List Addr) (tn : Nat → Heap → Prop) (W : Nat → Nat → Hp → Prop) (ω : L2.St) (n : Nat) (z : Shared) : Prop :=
  ∃ k G, W k n G ∧ Inv B [] ω G z ∧ tn k z.heap ∧ ∀ b ∈ fp, G b = none
theorem pe_lcH (hc : HotC X) (hN : X.N.Nodup) (hi : PIH X tg iter wi) (ok : BlkOk X.N X.env.scope scope own) (parts : ∀ p, Hot1 X.A p → Parts X p scope elt tg ifs g tt te)
    (hs : ∀ x, foldedSetIterable iter X.env x = pure x := by intro _; rfl) : PE X (.ListComp elt [⟨tg, iter, ifs, 0⟩] scope pos) (tLc wi g tt te (own.map (·.2))) := by
  obtain ⟨p, hot, inX⟩ := hc
  have P := parts p hot
  refine ⟨fun pins s σ H Q I want => ?_⟩
  rw [eval_ListComp]
  have caught : ∀ y ∈ scope.names, y.2 = .free → ∃ c, X.env.cells.lookup y.1 = some c := by
    intro y hy hf
    exact I.ok.has y.1 (ok.free y hy hf)
  refine wpAny_comprehension_free rfl hs (closure_ok caught) ok.kind (fun y hy e => (ok.uniq y hy).trans (congrArg some e)) ?_
  refine thn (hi.run pins s σ H _ I want) fun src sA hA => thn hA fun itv sB hB => ?_
  obtain ⟨it, fp, tn, J, HB, hit, IB, T, tB, fB, more⟩ := hB
  refine wpAny_newObj_type (newEnv_comp ?_) (Nat.zero_le sizeLine)
  -- the list that is made
  have nD : HB sB.heap.objs.size = none := IB.hok.fresh (Nat.le_refl _)
  obtain ⟨W, ⟨n0, w0⟩, turn⟩ := more _ nD
  obtain ⟨HC, eHC⟩ : ∃ G : Hp, G = L2.upd HB sB.heap.objs.size (.lst []) := ⟨_, rfl⟩
  obtain ⟨sC, eC⟩ : ∃ z : Shared, z = { sB with heap := sB.heap.push { cls := .type "list", data := .seq ([] : List Value).toArray } } := ⟨_, rfl⟩
  rw [← eHC] at w0
  have hpC : sC.heap = sB.heap.push { cls := .type "list", data := .seq ([] : List Value).toArray } := by rw [eC]
  have keepC : ∀ b o, sB.heap.get? b = some o → sC.heap.get? b = some o := by
    intro b o e
    rw [hpC]
    exact Heap.get?_push_of_some _ e
  have IC : Inv X pins σ HC sC := by
    rw [eHC, eC]
    refine IB.laid (t' := sB.toks) (fun b o e => Heap.get?_push_of_some _ e) (Nat.le_refl _) ⟨Nat.zero_le _, [], 0, .nil, ?_⟩
    exact Heap.get?_push_size _ rfl
  have small : ∀ b ∈ fp, b < sB.heap.objs.size := by
    intro b hb
    obtain ⟨o, e, _⟩ := T.obj _ _ tB b hb
    exact Heap.lt_size e
  have fC : ∀ b ∈ fp, FpOk X pins HC b ∧ b < sC.heap.objs.size := by
    intro b hb
    have lt := small b hb
    refine ⟨⟨?_, (fB b hb).2⟩, ?_⟩
    · rw [eHC, upd_ne (Nat.ne_of_lt lt)]
      exact (fB b hb).1
    · rw [hpC, Heap.size_push]
      exact Nat.lt_succ_of_lt lt
  -- the block begins
  have IB0 := block_start IC ok hN fC
  have pB := IC.pin p (List.mem_append_left _ inX)
  have pt := P.tst sC HC sC.heap.objs.size (cellsFrom (sC.heap.objs.size + 1) scope.names (cloFrom X.env.cells scope.names [])) fp
  have pg := P.tgt sC HC sC.heap.objs.size (cellsFrom (sC.heap.objs.size + 1) scope.names (cloFrom X.env.cells scope.names [])) fp
  have pe := P.elm sC HC sC.heap.objs.size (cellsFrom (sC.heap.objs.size + 1) scope.names (cloFrom X.env.cells scope.names [])) fp
  rw [hit, ← eC]
  obtain ⟨ce, eE⟩ : ∃ e : Env, e = compEnvC scope (cellsFrom (sC.heap.objs.size + 1) scope.names (cloFrom X.env.cells scope.names [])) sC.heap.objs.size X.env := ⟨_, rfl⟩
  rw [← eE] at IB0 pt pg pe
  have eL : ce.locals = sC.heap.objs.size := by rw [eE]; rfl
  have IE : Inv (hbk X p sC HC scope ce fp) [] (wipe σ (own.map (·.2))) HC { sC with heap := pushCells (sC.heap.push { cls := .type "dict", data := .dict #[] }) scope.names } := by
    refine (IB0.pins_of (pins' := [p]) fun q hq => ?_).toTry _
    obtain rfl := List.mem_singleton.mp hq
    refine ⟨pushCells_keeps _ _ _ _ (Heap.get?_push_of_some _ pB.1), pB.2.1, ?_, ?_, pB.2.2.2.2⟩
    · show q.1 ≠ ce.locals
      rw [eL]
      exact Nat.ne_of_lt (Heap.lt_size pB.1)
    · intro hm
      rcases List.mem_cons.mp (IC.stkSub q.1 hm) with z | z
      · exact pB.2.2.1 z
      · exact pB.2.2.2.1 z
  have clean : ∀ {ω : L2.St} {G : Hp} {z : Shared}, Inv (hbk X p sC HC scope ce fp) [] ω G z → (∀ b ∈ fp, G b = none) → ∀ b ∈ fp, FpOk (hbk X p sC HC scope ce fp) [] G b := by
    intro ω G z IZ gn b hb
    refine ⟨gn b hb, (IZ.ok.exf b hb).1, IZ.ok.exfs b hb, .inl hb, fun x c e => (IZ.ok.exf b hb).2 x c e, fun q hq => ?_⟩
    obtain rfl : q = p := by simpa using hq
    exact (fC b hb).1.2.2.2.2.2 _ (List.mem_append_left _ inX)
  obtain ⟨sE, eS⟩ : ∃ z : Shared, z = { sC with heap := pushCells (sC.heap.push { cls := .type "dict", data := .dict #[] }) scope.names } := ⟨_, rfl⟩
  rw [← eS] at IE
  have tE : tn 0 sE.heap := by
    refine T.keep _ _ _ tB fun b _ o e => ?_
    rw [eS]
    exact pushCells_keeps _ _ _ _ (Heap.get?_push_of_some _ (keepC b o e))
  have run : codeAny (model X.prog X.w) X.A (.compLoop (.ListComp elt [⟨tg, iter, ifs, 0⟩] scope pos) 0 (.ref it) (.ref sB.heap.objs.size) ce) (compPost (model X.prog X.w) X.A X.xe none (EP X pins σ Q) (.ref sB.heap.objs.size) sC.heap.objs.size) sE := by
    refine compLoop_any (Head (hbk X p sC HC scope ce fp) fp tn W (wipe σ (own.map (·.2)))) ?_ n0 ⟨0, HC, w0, IE, tE, fun b hb => (fC b hb).1.1⟩
    rintro n z ⟨k, G, w, IZ, tz, gn⟩
    have cz := clean IZ gn
    cases turn k n G w with
    | inl e =>
      refine thnF (T.done (hbk X p sC HC scope ce fp) rfl rfl rfl (hot_hbk hot) k [] z _ G (fun _ _ => False) IZ cz tz e.1) fun r y hy => ?_
      obtain ⟨hr, IY⟩ := hy
      subst hr
      have IX : Inv X pins σ G y := IC.call' (ch := fp) IY.os IY.base IY.hok IY.bare fun b hb => by
        obtain ⟨_, f1, f2, f3, f4, f5⟩ := (fC b hb).1
        exact ⟨f3, f1, f4, f5⟩
      have nC : G sC.heap.objs.size = none := eL ▸ IY.free
      obtain ⟨m, hm, _⟩ := IY.loc
      refine ⟨m, eL ▸ hm, fun h' sb => ?_⟩
      obtain ⟨f0, f1, f2, f3, f4, f5⟩ := IC.fpOk (Nat.le_refl _) nC
      exact ⟨V.ref sB.heap.objs.size, G, IX.turned (t' := y.toks) (fun b o hb e' => (sb.2 b hb).trans e') f0 f1 f3 f4 f5, rfl, e.2⟩
    | inr e =>
      obtain ⟨go, Nx, next, step⟩ := e
      refine thnF (T.item (hbk X p sC HC scope ce fp) rfl rfl rfl (hot_hbk hot) k [] z _ G (fun _ _ => False) IZ cz tz go) fun r y hy => ?_
      obtain ⟨u, hr, hy⟩ := hy
      subst hr
      refine thnF hy fun _ y1 hy1 => ?_
      obtain ⟨x, G1, I1, rx, yl, t1, g1⟩ := hy1
      have I2 := I1.pinned (clean I1 g1) (T.obj _ _ t1)
      refine thnF (pg.run _ y1 _ G1 x u _ I2 rx (step x G1 yl)) fun _ y2 hy2 => ?_
      obtain ⟨ω, G2, I3, same, q3⟩ := hy2
      refine thnF (pt.run _ y2 ω G2 _ I3 q3) fun b y3 hy3 => ?_
      obtain ⟨G3, I4, q4⟩ := hy3
      have close : ∀ {y' : Shared} {G' : Hp}, Inv (hbk X p sC HC scope ce fp) ([] ++ pinsAt fp y1.heap) ω G' y' → Nx G' → ∃ m, m < n ∧ Head (hbk X p sC HC scope ce fp) fp tn W (wipe σ (own.map (·.2))) m y' := by
        intro y' G' I' nx
        obtain ⟨m, lt, w'⟩ := next G' nx
        have stay : ∀ b ∈ fp, ∀ o, y1.heap.get? b = some o → y'.heap.get? b = some o ∧ G' b = none := by
          intro b hb o e'
          have z' := I'.pin (b, o) (List.mem_append_right _ (List.mem_append_right _ (mem_pinsAt hb e')))
          exact ⟨z'.1, z'.2.1⟩
        have len : (wipe σ (own.map (·.2))).length = ω.length := by rw [← same, wipe_length]
        refine ⟨m, lt, k + 1, G', w', (I'.unpinned (pins := [])).weak len (fun j v e' => ?_), T.keep _ _ _ t1 fun b hb o e' => (stay b hb o e').1, fun b hb => ?_⟩
        · rw [← same] at e'
          exact (wipe_some e').1
        · obtain ⟨o, e', _⟩ := T.obj _ _ t1 b hb
          exact (stay b hb o e').2
      cases b with
      | true =>
        have q4 : te ω G3 _ := q4
        refine thnF (pe.run _ y3 ω G3 _ I4 q4) fun v y4 hy4 => ?_
        obtain ⟨yv, G4, I5, ry, acc, hD, hz, nx⟩ := hy4
        exact app_ok (X := hbk X p sC HC scope ce fp) I5 hD hz ry fun y5 I6 => close I6 nx
      | false => exact close I4 q4
  rw [eE, eS] at run
  rw [eS] at tE
  exact codeAny_compStart_list run (T.self X.A 0 _ _ _ tE run)
end
end HotLc
namespace K01
open PySem PySem.Spec PyProof.Rows L2 TL
/-! comprehensions with a test, folded -/
def LcT (J : It) (g : TG) (tt : TT) (te : TE) (vs : List Nat) (σ : L2.St) (H1 : Hp) (D : Addr) (Q : Hp → Prop) : Prop := ∃ W : Nat → Nat → Hp → Prop, (∃ m, W 0 m (L2.upd H1 D (.lst []))) ∧ ∀ i m G, W i m G →
  (J.stop i G ∧ Q G) ∨ (J.go i G ∧ ∃ Nx : Hp → Prop, (∀ G', Nx G' → ∃ m', m' < m ∧ W (i + 1) m' G') ∧ ∀ x G', J.yld i G x G' → g x (wipe σ vs) G' fun ω G2 => wipe ω vs = wipe σ vs ∧ tt ω G2 fun b G3 =>
    if b = true then te ω G3 fun y G4 => ∃ got, G4 D = some (.lst got) ∧ got.length < sizeLine ∧ Nx (L2.upd G4 D (.lst (got ++ [y]))) else Nx G3)
theorem lcT_eq {K : PySem.W.Frag} {tl te : TE} {g : TG} {tt : TT} {vs : List Nat} {σ : L2.St} {H : Hp} {Q : VK} : tLc (iList K tl) g tt te vs σ H Q = tl σ H (fun v H1 => ∃ a, v = V.ref a ∧ ∃ xs, SqL K H1 a xs ∧ ∀ D, H1 D = none → LcT (Itl K a) g tt te vs σ H1 D (Q (.ref D))) := by
  show tl σ H _ = tl σ H _
  congr 1
  funext v H1
  exact propext ⟨fun ⟨a, e, ⟨xs, h⟩, q⟩ => ⟨a, e, xs, h, q⟩, fun ⟨a, e, xs, h, q⟩ => ⟨a, e, ⟨xs, h⟩, q⟩⟩
theorem lcRT_eq {ta : TA} {te : TE} {g : TG} {tt : TT} {vs : List Nat} {σ : L2.St} {H : Hp} {Q : VK} : tLc (iRng1 ta) g tt te vs σ H Q = ta σ H (fun vs' H1 => ∃ j : Int, vs' = [V.int j] ∧ -(2 ^ 62) ≤ j ∧ j < 2 ^ 62 ∧ ∀ D, H1 D = none → LcT (Itr 0 j.toNat) g tt te vs σ H1 D (Q (.ref D))) := rfl
section
variable {j : Nat} {tt : TT} {te : TE} {vs : List Nat} {σ : L2.St} {H1 : Hp} {D : Addr} {Qd : Hp → Prop}
theorem r_lcT {K : PySem.W.Frag} {a : Addr} (xs : List V) (Pv : Nat → Hp → Prop) (hw : ∀ x, wipe ((wipe σ vs).set j (some x)) vs = wipe σ vs) (h0 : Pv 0 (L2.upd H1 D (.lst []))) (hl : ∀ i H, i ≤ xs.length → Pv i H → SqL K H a xs)
    (hs : ∀ i x H, xs[i]? = some x → Pv i H → ∀ (N : VK) (M : Hp → Prop), (∀ y H4 got, H4 D = some (.lst got) → got.length < sizeLine → Pv (i + 1) (L2.upd H4 D (.lst (got ++ [y]))) → N y H4) → (∀ H3, Pv (i + 1) H3 → M H3) →
      tt ((wipe σ vs).set j (some x)) H fun b H3 => if b = true then te ((wipe σ vs).set j (some x)) H3 N else M H3) (hd : ∀ H, Pv xs.length H → Qd H) : LcT (Itl K a) (gName j) tt te vs σ H1 D Qd :=
  lc_list (g := gName j) Pv h0 hl (fun i x H hx hp => ⟨hw x, hs i x H hx hp _ _ (fun y H4 got h1 h2 h3 => ⟨got, h1, h2, h3⟩) fun _ h => h⟩) hd
theorem r_lcRT {n : Nat} (Pv : Nat → Hp → Prop) (hw : ∀ x, wipe ((wipe σ vs).set j (some x)) vs = wipe σ vs) (h0 : Pv 0 (L2.upd H1 D (.lst [])))
    (hs : ∀ i H, i < n → Pv i H → ∀ (N : VK) (M : Hp → Prop), (∀ y H4 got, H4 D = some (.lst got) → got.length < sizeLine → Pv (i + 1) (L2.upd H4 D (.lst (got ++ [y]))) → N y H4) → (∀ H3, Pv (i + 1) H3 → M H3) →
      tt ((wipe σ vs).set j (some (.int (0 + i)))) H fun b H3 => if b = true then te ((wipe σ vs).set j (some (.int (0 + i)))) H3 N else M H3) (hd : ∀ H, Pv n H → Qd H) : LcT (Itr 0 n) (gName j) tt te vs σ H1 D Qd :=
  lc_range (g := gName j) Pv h0 (fun i H hi hp => ⟨hw _, hs i H hi hp _ _ (fun y H4 got h1 h2 h3 => ⟨got, h1, h2, h3⟩) fun _ h => h⟩) hd
end
end K01
namespace K01
open PySem PySem.Spec PyProof.Rows L2 TL
local macro_rules | `(tactic| walk_at "rd") => `(tactic| simp only [start1, wipe, isR, isBool, isInt, isStr, isLst, isTup, tAsg, gName, gSub, tVar, tC, tOp, tUn, tTest, tIfS, tRet, tRetN, tDrop, tB, tAnd, tOr, tNot, tAndV, tOrV, tNotV, tIf, tCB, tCons, tNil, tNext, tCall, tBM, tTup, tLst, rI0, rI, rEq, rNe, scal, forR_eq, forR2_eq, forS_eq, forL_eq, lcL_eq, lcR_eq, lcS_eq, rLenX, rLenS, rMulS, rRepL, rCatL, tPart, tNoPart, CwR.tReplC, rAllK, rInSg, rNinSg, sgn_inj, rAddS, rInSt, tChain, tM1, tM0, rSplitN, rJoinN, exists_eq, rIntI, rIntB, rIntS, rStrI, rAbs, rOrd, rMin, rMax, rIxL, rIxX, rSetL, rAppend, rIxS, rSlS, rSlL, tSl, List.map_cons, List.map_nil, List.replicate_succ, List.replicate_zero, List.length_cons, List.length_nil, Nat.reduceSub, Nat.reduceAdd, Nat.zero_add, Nat.sub_self, List.getElem?_cons_zero, List.getElem?_cons_succ, List.set_cons_zero, List.set_cons_succ, List.append_nil, List.nil_append, List.cons_append, Option.some.injEq, not_true_eq_false, reduceCtorEq, exists_eq_left', exists_eq_left, exists_eq', exists_and_left, exists_and_right, V.int.injEq, V.str.injEq, V.bl.injEq, V.ref.injEq, List.cons.injEq, and_true, true_and, and_assoc, decide_eq_true_eq, Bool.not_eq_true', decide_eq_false_iff_not, ite_true, ite_false, if_true, if_false, Bool.not_true, Bool.not_false, Bool.false_eq_true, eq_self_iff_true, reduceIte, ne_eq, Int.reduceEq, not_false_eq_true])
local macro_rules | `(tactic| walk_at "rt") => `(tactic| try walk_at "rd")
local macro_rules | `(tactic| walk_at "st") => `(tactic| (walk_at "rt"; refine r_seq ?_; walk_at "rt"))
local macro_rules | `(tactic| walk_at "hp") => `(tactic| first | assumption | exact upd_same | (rw [upd_ne (by assumption)]; walk_at "hp"))
local macro_rules | `(tactic| walk_at "ex1") => `(tactic| ((with_reducible refine Exists.intro ?w (And.intro ?hx ?_)); (case hx => first | exact sq_of (by walk_at "hp") | exact .inl (sq_of (by walk_at "hp")) | exact rfl | (show _ = some (HO.lst _); walk_at "hp"))))
local macro_rules | `(tactic| walk_at "ex") => `(tactic| repeat (first | walk_at "ex1" | walk_at "rd"))
abbrev s_isnumber : Stmt := topS 50
theorem sc_isnumber : FnScope ["value"] ["value"] (defScope s_isnumber) := ⟨rfl, rfl, rfl, by decide +kernel, rfl, by decide +kernel, by decide +kernel⟩
abbrev s_due : Stmt := topS 69
theorem sc_due : FnScope ["kind", "values"] ["kind", "values"] (defScope s_due) := ⟨rfl, rfl, rfl, by decide +kernel, rfl, by decide +kernel, by decide +kernel⟩
abbrev s_isname : Stmt := topS 49
theorem sc_isname : FnScope ["text", "letter"] ["text"] (defScope s_isname) := ⟨rfl, rfl, rfl, by decide +kernel, rfl, by decide +kernel, by decide +kernel⟩
abbrev s_named : Stmt := topS 70
theorem sc_named : FnScope ["word", "codes", "letters", "digits", "sign", "code"] ["word"] (defScope s_named) := ⟨rfl, rfl, rfl, by decide +kernel, rfl, by decide +kernel, by decide +kernel⟩
def spIsNum : Sp := fun vs H Q _ => ∃ x b, vs = [x] ∧ Thing x b ∧ Q (.bl b) H
def letC (c : Nat) : Bool := decide (97 ≤ c) && decide (c ≤ 122)
def digC (c : Nat) : Bool := decide (48 ≤ c) && decide (c ≤ 57)
def nmB (l : List Nat) : Bool := decide (1 ≤ l.length ∧ l.length ≤ 6) && (match l with | [] => false | c :: _ => letC c) && l.all fun c => letC c || digC c
def spNamed : Sp := fun vs H Q _ => ∃ z : Str, vs = [.str z] ∧ z.length ≤ 1000000 ∧ ∀ H', (∀ b o, H b = some o → H' b = some o) → Q (.bl (nmB (tl z))) H'
theorem let_mem (c : Nat) : (c ∈ (Str.ofString "abcdefghijklmnopqrstuvwxyz").cps.toList) ↔ letC c = true := by
  have e : (Str.ofString "abcdefghijklmnopqrstuvwxyz").cps.toList = (List.range 26).map (· + 97) := by decide +kernel
  rw [e]
  simp only [List.mem_map, List.mem_range, letC, Bool.and_eq_true, decide_eq_true_eq]
  exact ⟨fun ⟨a, h, e⟩ => ⟨by omega, by omega⟩, fun h => ⟨c - 97, by omega, by omega⟩⟩
theorem dig_mem (c : Nat) : (c ∈ (Str.ofString "0123456789").cps.toList) ↔ digC c = true := by
  have e : (Str.ofString "0123456789").cps.toList = (List.range 10).map (· + 48) := by decide +kernel
  rw [e]
  simp only [List.mem_map, List.mem_range, digC, Bool.and_eq_true, decide_eq_true_eq]
  exact ⟨fun ⟨a, h, e⟩ => ⟨by omega, by omega⟩, fun h => ⟨c - 48, by omega, by omega⟩⟩
theorem But0.new {H : Hp} {D : Addr} {x : HO} (h : H D = none) : ∀ b o, H b = some o → L2.upd H D x b = some o := fun b o e => by
  rw [upd_ne (fun z => by rw [z, h] at e; cases e)]
  exact e
theorem But0.put {H H' : Hp} {D : Addr} {x : HO} (h : H D = none) (k : ∀ b o, H b = some o → H' b = some o) : ∀ b o, H b = some o → L2.upd H' D x b = some o := fun b o e => by
  rw [upd_ne (fun z => by rw [z, h] at e; cases e)]
  exact k b o e
section
variable {P : Program} {w : World} {K : PySem.W.Frag} {mg : Str → Option Value} {base : Heap}
theorem ok_isnumber {f : Addr} {fd : FuncData} (B : Bi mg) (D : Dn K mg "is_number" s_isnumber ["value"] f fd) : FnOk P w K mg base CX0 1 f fd ["value"] spIsNum := by
  refine D.F.ok sc_isnumber (fun vs H Q E h => ?_) (fun cdv A outer s H vs Q E hr h => ?_)
  · obtain ⟨x, b, rfl, _⟩ := h
    rfl
  · obtain ⟨x, b, rfl, t, q⟩ := h
    refine ⟨_, (pss_one (ps_ret (pe_and (pe_callB call_is_int (by rfl) B.isinstance (by decide +kernel) (pa_cons (pv 0) (pa_cons (pe_bltn (v := .ty "int") (by rfl) B.int_ (by decide +kernel) rfl) pa_nil))) (pe_one (pe_not (pe_callB call_is_bool (by rfl) B.isinstance (by decide +kernel) (pa_cons (pv 0) (pa_cons (pe_bltn (v := .ty "bool") (by rfl) B.bool_ (by decide +kernel) rfl) pa_nil)))))))), ?_⟩
    rcases t with ⟨rfl, ⟨k, rfl⟩ | rfl | ⟨z, rfl, _⟩⟩ | ⟨rfl, n, rfl, _⟩
    · walk_at "rt"
      refine ⟨fun _ => True, .bl k, rfl, ?_⟩
      walk_at "rt"
      refine ⟨fun _ => True, .bl k, rfl, ?_⟩
      walk_at "rt"
      exact q
    · walk_at "rt"
      refine ⟨fun _ => True, .non, rfl, ?_⟩
      walk_at "rt"
      exact q
    · walk_at "rt"
      refine ⟨fun _ => True, .str z, rfl, ?_⟩
      walk_at "rt"
      exact q
    · walk_at "rt"
      refine ⟨fun _ => True, .int n, rfl, ?_⟩
      walk_at "rt"
      refine ⟨fun _ => True, .int n, rfl, ?_⟩
      walk_at "rt"
      exact q
theorem ok_isname {f : Addr} {fd : FuncData} (B : Bi mg) {t1 t2 t3 : Tok} (D : Dn K mg "is_name" s_isname ["text"] f fd) (gc_LONGEST_NAME : mg "LONGEST_NAME" = some (.int 6 t1))
    (gc_LETTERS : mg "LETTERS" = some (.str (Str.ofString "abcdefghijklmnopqrstuvwxyz") t2)) (gc_DIGITS : mg "DIGITS" = some (.str (Str.ofString "0123456789") t3)) : FnOk P w K mg base CX0 1 f fd ["text"] spNamed := by
  refine D.F.ok sc_isname (fun vs H Q E h => ?_) (fun cdv A outer s H vs Q E hr h => ?_)
  · obtain ⟨z, rfl, _⟩ := h
    rfl
  · obtain ⟨z, rfl, hz, q⟩ := h
    refine ⟨_, (pss_cons (ps_if (PW.pt (pw_or (pt_not (pt_chain op_le op_le pe_int (pe_callB call_lenS (by rfl) B.len PySem.boot_len (pa_cons (pv 0) pa_nil)) (pe_glob (v := .int 6) (by rfl) gc_LONGEST_NAME ⟨_, rfl⟩))) (pw_or1 (pt_cmpR op_ninSg (pe_ix ix_str (pv 0) pe_int (fun _ _ => rfl)) (pe_glob (v := .str (Str.ofString "abcdefghijklmnopqrstuvwxyz")) (by rfl) gc_LETTERS ⟨_, rfl⟩) (by rfl))))) (pss_one (ps_ret pe_bl)) pss_nil)
      (pss_one (ps_ret (pe_callB (call_allK (K := K)) (by rfl) B.all (by decide +kernel) (pa_cons (pe_lc (own := [("letter", 1)]) (g := gName 1) (tt := tYes) (by rfl) sc_isname.nd (pi_str (pv 0)) (blkOk_by (own := [("letter", 1)]) (N := ["text", "letter"]) (sc := defScope s_isname) (by decide +kernel)) (fun _ _ _ _ _ => pg_name (i := 1) sc_isname.nd rfl (Or.inl rfl)) (fun _ _ _ _ _ => pts_nil) (fun _ _ _ _ _ => (pe_or (pe_cmpR op_inSg (pv 1) (pe_glob (v := .str (Str.ofString "abcdefghijklmnopqrstuvwxyz")) (by rfl) gc_LETTERS ⟨_, rfl⟩) (by rfl)) (pe_one (pe_cmpR op_inSg (pv 1) (pe_glob (v := .str (Str.ofString "0123456789")) (by rfl) gc_DIGITS ⟨_, rfl⟩) (by rfl)))))) pa_nil))))), ?_⟩
    walk_at "st"
    have hlen : z.length = (tl z).length := len_tl z
    refine ⟨line_of (by omega), ite2 (fun h1 => ite2 (fun h6 => ?_) (fun h6 => ?_)) (fun h1 => ?_)⟩
    · have e : nmB (tl z) = false := by
        unfold nmB
        rw [decide_eq_false (by omega)]
        rfl
      rw [e] at q
      exact q H fun _ _ h => h
    · obtain ⟨c, r, hc⟩ : ∃ c r, tl z = c :: r := by
        cases h : tl z with
        | nil => rw [h] at hlen; exact absurd hlen (by simp only [List.length_nil]; omega)
        | cons c r => exact ⟨c, r, rfl⟩
      refine ⟨line_of (by omega), c, by show atI (tl z) ((0 : Nat) : Int) = _; rw [hc]; exact atI_nat rfl, ite2 (fun hl => ?_) (fun hl => ?_)⟩
      · have hl : letC c = false := by
          rw [let_mem] at hl
          simpa using hl
        have e : nmB (tl z) = false := by
          unfold nmB
          rw [hc]
          simp only [hl, Bool.and_false, Bool.false_and]
        rw [e] at q
        exact q H fun _ _ h => h
      · have hl : letC c = true := by
          rw [let_mem] at hl
          simpa using hl
        intro D nD
        refine r_lcS z (fun i H' => H' D = some (.lst ((((tl z).take i).map fun c => letC c || digC c).map V.bl)) ∧ ∀ b o, H b = some o → H' b = some o) (fun x => rfl) ⟨upd_same, But0.new nD⟩ ?_ ?_
        · rintro i d H2 hd ⟨hD, kp⟩ N k
          walk_at "rt"
          have hd : (tl z)[i]? = some d := hd
          have hi : i < (tl z).length := lt_of_get hd
          have key : ∀ b, b = (letC d || digC d) → N (V.bl b) H2 := fun b e => by
            subst e
            refine k _ _ _ hD (size_ok (by rw [List.length_map, List.length_map, List.length_take]; omega)) ⟨?_, But0.put nD kp⟩
            rw [upd_same, List.take_succ, hd, List.map_append, List.map_append]
            rfl
          refine ite2 (fun h => key _ ?_) (fun h => key _ ?_)
          · rw [let_mem] at h
            rw [h]
            rfl
          · rw [let_mem] at h
            have h : letC d = false := by simpa using h
            rw [h, Bool.false_or]
            cases e : digC d with
            | true => exact decide_eq_true ((dig_mem d).mpr e)
            | false => exact decide_eq_false (fun z => by rw [dig_mem, e] at z; cases z)
        · rintro H2 ⟨hD, kp⟩
          refine ⟨_, sq_of hD, ?_⟩
          have e : (((tl z).take z.cps.toList.length).map fun c => letC c || digC c).all id = nmB (tl z) := by
            rw [show z.cps.toList.length = (tl z).length from rfl, List.take_length, List.all_map]
            unfold nmB
            rw [decide_eq_true (by omega), Bool.true_and]
            conv => rhs; lhs; rw [hc]
            rw [show (match c :: r with | [] => false | c :: _ => letC c) = letC c from rfl, hl, Bool.true_and]
            rfl
          rw [e]
          exact q _ kp
    · have e : nmB (tl z) = false := by
        unfold nmB
        rw [decide_eq_false (by omega)]
        rfl
      rw [e] at q
      exact q H fun _ _ h => h
end
end K01
namespace K01
open PySem PySem.Spec PyProof.Rows L2 TL
local macro_rules | `(tactic| walk_at "rd") => `(tactic| simp only [start1, wipe, isR, isBool, isInt, isStr, isLst, isTup, tAsg, gName, gSub, tVar, tC, tOp, tUn, tTest, tIfS, tRet, tRetN, tDrop, tB, tAnd, tOr, tNot, tAndV, tOrV, tNotV, tIf, tCB, tCons, tNil, tNext, tCall, tBM, tTup, tLst, rI0, rI, rEq, rNe, scal, forR_eq, forR2_eq, forS_eq, forL_eq, lcT_eq, lcRT_eq, lcS_eq, rLenX, rLenS, rListOf, tRevL, rMulS, rRepL, rCatL, tPart, tNoPart, CwR.tReplC, rAllK, rInSg, rNinSg, sgn_inj, rAddS, rInSt, tChain, tM1, tM0, rSplitN, rJoinN, exists_eq, rIntI, rIntB, rIntS, rStrI, rAbs, rOrd, rMin, rMax, rIxL, rIxX, rSetL, rAppend, rIxS, rSlS, rSlL, tSl, List.map_cons, List.map_nil, List.replicate_succ, List.replicate_zero, List.length_cons, List.length_nil, Nat.reduceSub, Nat.reduceAdd, Nat.zero_add, Nat.sub_self, List.getElem?_cons_zero, List.getElem?_cons_succ, List.set_cons_zero, List.set_cons_succ, List.append_nil, List.nil_append, List.cons_append, Option.some.injEq, not_true_eq_false, reduceCtorEq, exists_eq_left', exists_eq_left, exists_eq', exists_and_left, exists_and_right, V.int.injEq, V.str.injEq, V.bl.injEq, V.ref.injEq, List.cons.injEq, and_true, true_and, and_assoc, decide_eq_true_eq, Bool.not_eq_true', decide_eq_false_iff_not, ite_true, ite_false, if_true, if_false, Bool.not_true, Bool.not_false, Bool.false_eq_true, eq_self_iff_true, reduceIte, ne_eq, Int.reduceEq, not_false_eq_true])
local macro_rules | `(tactic| walk_at "rt") => `(tactic| try walk_at "rd")
local macro_rules | `(tactic| walk_at "st") => `(tactic| (walk_at "rt"; refine r_seq ?_; walk_at "rt"))
local macro_rules | `(tactic| walk_at "hp") => `(tactic| first | assumption | exact upd_same | (rw [upd_ne (by assumption)]; walk_at "hp"))
local macro_rules | `(tactic| walk_at "ex1") => `(tactic| ((with_reducible refine Exists.intro ?w (And.intro ?hx ?_)); (case hx => first | exact sq_of (by walk_at "hp") | exact .inl (sq_of (by walk_at "hp")) | exact rfl | (show _ = some (HO.lst _); walk_at "hp"))))
local macro_rules | `(tactic| walk_at "ex") => `(tactic| repeat (first | walk_at "ex1" | walk_at "rd"))
theorem parts_le {p q : Nat → Bool} (h : ∀ c, p c = true → q c = false) : ∀ l : List Nat, (l.filter p).length + (l.filter q).length ≤ l.length ∧ (((l.filter p).length + (l.filter q).length = l.length) ↔ (l.all fun c => p c || q c) = true)
  | [] => ⟨Nat.le_refl _, by simp⟩
  | c :: l => by
    obtain ⟨h1, h2⟩ := parts_le h l
    cases e : p c with
    | true =>
      have e2 := h c e
      simp only [List.filter_cons, e, e2, if_true, Bool.false_eq_true, if_false, List.length_cons, List.all_cons, Bool.true_or, Bool.true_and]
      refine ⟨by omega, ?_⟩
      rw [← h2]
      omega
    | false =>
      cases e2 : q c with
      | true =>
        simp only [List.filter_cons, e, e2, if_true, Bool.false_eq_true, if_false, List.length_cons, List.all_cons, Bool.or_true, Bool.true_and]
        refine ⟨by omega, ?_⟩
        rw [← h2]
        omega
      | false =>
        simp only [List.filter_cons, e, e2, Bool.false_eq_true, if_false, List.length_cons, List.all_cons, Bool.or_false, Bool.false_and, iff_false]
        exact ⟨by omega, by omega⟩
theorem let_dig (c : Nat) (h : letC c = true) : digC c = false := by
  unfold letC at h
  unfold digC
  simp only [Bool.and_eq_true, decide_eq_true_eq] at h
  rw [decide_eq_false (p := c ≤ 57) (by omega), Bool.and_false]
theorem kp_ne {H : Hp} {p D : Addr} {o : HO} (h : H p = some o) (n : H D = none) : p ≠ D := fun z => by
  rw [z, n] at h
  cases h
theorem But0.put' {H : Hp} {p D : Addr} {o x : HO} (h : H p = some o) (n : p ≠ D) : L2.upd H D x p = some o := (upd_ne n).trans h
section
variable {P : Program} {w : World} {K : PySem.W.Frag} {mg : Str → Option Value} {base : Heap}
theorem ok_named {f : Addr} {fd : FuncData} (B : Bi mg) (D : Dn K mg "_law_named" s_named ["word"] f fd) : FnOk P w K mg base CX0 1 f fd ["word"] spNamed := by
  refine D.F.ok sc_named (fun vs H Q E h => ?_) (fun cdv A outer s H vs Q E hr h => ?_)
  · obtain ⟨z, rfl, _⟩ := h
    rfl
  · obtain ⟨z, rfl, hz, q⟩ := h
    refine ⟨_, (pss_cons (ps_if (PW.pt (pw_or (pt_cmpR op_lt (pe_callB call_lenS (by rfl) B.len PySem.boot_len (pa_cons (pv 0) pa_nil)) pe_int (nomark _)) (pw_or1 (pt_cmpR op_gt (pe_callB call_lenS (by rfl) B.len PySem.boot_len (pa_cons (pv 0) pa_nil)) pe_int (nomark _))))) (pss_one (ps_ret pe_bl)) pss_nil)
      (pss_cons (ps_setLc (i := 1) (own := [("sign", 4)]) (g := gName 4) (tt := tYes) (by rfl) sc_named.nd rfl rfl (sw_true rfl rfl rfl (by decide +kernel)) (pi_str (pv 0)) (blkOk_by (own := [("sign", 4)]) (N := ["word", "codes", "letters", "digits", "sign", "code"]) (sc := defScope s_named) (by decide +kernel)) (fun _ _ _ _ _ => pg_name (i := 4) sc_named.nd rfl (Or.inl rfl)) (fun _ _ _ _ _ => pts_nil) (fun _ _ _ _ _ => (pe_callB call_ordI (by rfl) B.ord (by decide +kernel) (pa_cons (pv 4) pa_nil))))
      (pss_cons (ps_setLc (i := 2) (own := [("code", 5)]) (g := gName 5) (by rfl) sc_named.nd rfl rfl (sw_true rfl rfl rfl (by decide +kernel)) (pi_listK (K := K) (pv 1)) (blkOk_by (own := [("code", 5)]) (N := ["word", "codes", "letters", "digits", "sign", "code"]) (sc := defScope s_named) (by decide +kernel)) (fun _ _ _ _ _ => pg_name (i := 5) sc_named.nd rfl (Or.inl rfl)) (fun _ _ _ _ _ => (pts_one (pt_chain op_le op_le pe_int (pv 5) pe_int))) (fun _ _ _ _ _ => (pv 5)))
      (pss_cons (ps_setLc (i := 3) (own := [("code", 5)]) (g := gName 5) (by rfl) sc_named.nd rfl rfl (sw_true rfl rfl rfl (by decide +kernel)) (pi_listK (K := K) (pv 1)) (blkOk_by (own := [("code", 5)]) (N := ["word", "codes", "letters", "digits", "sign", "code"]) (sc := defScope s_named) (by decide +kernel)) (fun _ _ _ _ _ => pg_name (i := 5) sc_named.nd rfl (Or.inl rfl)) (fun _ _ _ _ _ => (pts_one (pt_chain op_le op_le pe_int (pv 5) pe_int))) (fun _ _ _ _ _ => (pv 5)))
      (pss_one (ps_ret (pe_and (pe_cmpR op_eq (pe_op op_add (pe_callB (call_lenXK (K := K)) (by rfl) B.len PySem.boot_len (pa_cons (pv 2) pa_nil)) (pe_callB (call_lenXK (K := K)) (by rfl) B.len PySem.boot_len (pa_cons (pv 3) pa_nil))) (pe_callB (call_lenXK (K := K)) (by rfl) B.len PySem.boot_len (pa_cons (pv 1) pa_nil)) (nomark _)) (pe_one (pe_chain op_le op_le pe_int (pe_ix (ix_listK (K := K)) (pv 1) pe_int (fun _ _ => rfl)) pe_int))))))))), ?_⟩
    have hlen : z.length = (tl z).length := len_tl z
    walk_at "st"
    have bad : nmB (tl z) = false → Q (.bl false) H := fun e => by
      rw [e] at q
      exact q H fun _ _ h => h
    refine ⟨line_of (by omega), ite2 (fun h1 => bad ?_) (fun h1 => ⟨line_of (by omega), ite2 (fun h6 => bad ?_) (fun h6 => ?_)⟩)⟩
    · unfold nmB
      rw [decide_eq_false (by omega)]
      rfl
    · unfold nmB
      rw [decide_eq_false (by omega)]
      rfl
    obtain ⟨c, r, hc⟩ : ∃ c r, tl z = c :: r := by
      cases h : tl z with
      | nil => rw [h] at hlen; exact absurd hlen (by simp only [List.length_nil]; omega)
      | cons c r => exact ⟨c, r, rfl⟩
    walk_at "st"
    intro p1 n1
    refine r_lcS z (fun i H' => H' p1 = some (.lst (((tl z).take i).map fun c : Nat => V.int (c : Int))) ∧ ∀ b o, H b = some o → H' b = some o) (fun x => rfl) ⟨upd_same, But0.new n1⟩ ?_ ?_
    · rintro i d H2 hd ⟨hD, kp⟩ N k
      have hd : (tl z)[i]? = some d := hd
      have hi : i < (tl z).length := lt_of_get hd
      walk_at "rt"
      refine k _ _ _ hD (size_ok (by rw [List.length_map, List.length_take]; omega)) ⟨?_, But0.put n1 kp⟩
      rw [upd_same, List.take_succ, hd, List.map_append]
      rfl
    rintro H2 ⟨h1D, kp2⟩
    rw [show z.cps.toList.length = (tl z).length from rfl, List.take_length] at h1D
    walk_at "st"
    refine ⟨⟨_, sq_of h1D⟩, fun p2 n2 => ?_⟩
    refine r_lcT _ (fun i H' => H' p1 = some (.lst ((tl z).map fun c : Nat => V.int (c : Int))) ∧ H' p2 = some (.lst ((((tl z).take i).filter letC).map fun c : Nat => V.int (c : Int))) ∧ ∀ b o, H2 b = some o → H' b = some o) (fun x => rfl) ⟨But0.new n2 _ _ h1D, upd_same, But0.new n2⟩ (fun i H' _ h => sq_of h.1) ?_ ?_
    · rintro i x H3 hx ⟨ha, hb, kp⟩ N M kN kM
      rw [List.getElem?_map] at hx
      obtain ⟨d, hd, rfl⟩ := Option.map_eq_some_iff.mp hx
      have hi : i < (tl z).length := lt_of_get hd
      have lf : (((tl z).take i).filter letC).length ≤ i := Nat.le_trans (List.length_filter_le _ _) (by rw [List.length_take]; omega)
      have yes : letC d = true → N (.int (d : Int)) H3 := fun e => by
        refine kN _ _ _ hb (size_ok (by rw [List.length_map]; omega)) ⟨But0.put' ha (kp_ne h1D n2), ?_, But0.put n2 kp⟩
        rw [upd_same, List.take_succ, hd, List.filter_append, List.map_append]
        simp only [Option.toList_some, List.filter_cons, e, if_true, List.filter_nil, List.map_cons, List.map_nil]
      have no : letC d = false → M H3 := fun e => by
        refine kM _ ⟨ha, ?_, kp⟩
        rw [hb, List.take_succ, hd, List.filter_append]
        simp only [Option.toList_some, List.filter_cons, e, Bool.false_eq_true, if_false, List.filter_nil, List.append_nil]
      walk_at "rt"
      refine ite2 (fun a1 => ite2 (fun a2 => yes ?_) (fun a2 => no ?_)) (fun a1 => no ?_) <;> (unfold letC; first | (rw [decide_eq_true (p := 97 ≤ d) (by omega), decide_eq_true (by omega)]; done) | (rw [decide_eq_false (p := d ≤ 122) (by omega), Bool.and_false]) | (rw [decide_eq_false (p := 97 ≤ d) (by omega), Bool.false_and]) | (rw [decide_eq_true (p := 97 ≤ d) (by omega), decide_eq_true (by omega)]; rfl))
    rintro H3 ⟨h13, h23, kp3⟩
    rw [List.length_map, List.take_length] at h23
    walk_at "st"
    refine ⟨⟨_, sq_of h13⟩, fun p3 n3 => ?_⟩
    refine r_lcT _ (fun i H' => H' p1 = some (.lst ((tl z).map fun c : Nat => V.int (c : Int))) ∧ H' p3 = some (.lst ((((tl z).take i).filter digC).map fun c : Nat => V.int (c : Int))) ∧ ∀ b o, H3 b = some o → H' b = some o) (fun x => rfl) ⟨But0.new n3 _ _ h13, upd_same, But0.new n3⟩ (fun i H' _ h => sq_of h.1) ?_ ?_
    · rintro i x H4 hx ⟨ha, hb, kp⟩ N M kN kM
      rw [List.getElem?_map] at hx
      obtain ⟨d, hd, rfl⟩ := Option.map_eq_some_iff.mp hx
      have hi : i < (tl z).length := lt_of_get hd
      have lf : (((tl z).take i).filter digC).length ≤ i := Nat.le_trans (List.length_filter_le _ _) (by rw [List.length_take]; omega)
      have yes : digC d = true → N (.int (d : Int)) H4 := fun e => by
        refine kN _ _ _ hb (size_ok (by rw [List.length_map]; omega)) ⟨But0.put' ha (kp_ne h13 n3), ?_, But0.put n3 kp⟩
        rw [upd_same, List.take_succ, hd, List.filter_append, List.map_append]
        simp only [Option.toList_some, List.filter_cons, e, if_true, List.filter_nil, List.map_cons, List.map_nil]
      have no : digC d = false → M H4 := fun e => by
        refine kM _ ⟨ha, ?_, kp⟩
        rw [hb, List.take_succ, hd, List.filter_append]
        simp only [Option.toList_some, List.filter_cons, e, Bool.false_eq_true, if_false, List.filter_nil, List.append_nil]
      walk_at "rt"
      refine ite2 (fun a1 => ite2 (fun a2 => yes ?_) (fun a2 => no ?_)) (fun a1 => no ?_) <;> (unfold digC; first | (rw [decide_eq_true (p := 48 ≤ d) (by omega), decide_eq_true (by omega)]; done) | (rw [decide_eq_false (p := d ≤ 57) (by omega), Bool.and_false]) | (rw [decide_eq_false (p := 48 ≤ d) (by omega), Bool.false_and]) | (rw [decide_eq_true (p := 48 ≤ d) (by omega), decide_eq_true (by omega)]; rfl))
    rintro H4 ⟨h14, h34, kp4⟩
    rw [List.length_map, List.take_length] at h34
    walk_at "rt"
    have h24 := kp4 _ _ h23
    refine ⟨_, .inl (sq_of h24), _, .inl (sq_of h34), _, .inl (sq_of h14), ?_⟩
    simp only [List.length_map]
    have pl := (parts_le let_dig (tl z)).2
    have fin : ∀ b, b = nmB (tl z) → Q (.bl b) H4 := fun b e => e ▸ q H4 fun b o h => kp4 b o (kp3 b o (kp2 b o h))
    have nm : nmB (tl z) = (letC c && (tl z).all fun c => letC c || digC c) := by
      unfold nmB
      rw [decide_eq_true (by omega), Bool.true_and]
      conv => lhs; lhs; rw [hc]
    refine ite2 (fun he => ?_) (fun he => fin _ ?_)
    · refine ⟨_, sq_of h14, V.int (c : Int), by rw [hc]; exact atI_nat (j := 0) rfl, _, rfl, ?_⟩
      have al : ((tl z).all fun c => letC c || digC c) = true := pl.mp (by omega)
      rw [al, Bool.and_true] at nm
      refine ite2 (fun h97 => ⟨_, rfl, fin _ ?_⟩) (fun h97 => fin _ ?_)
      · rw [nm]
        unfold letC
        rw [decide_eq_true (p := 97 ≤ c) (by omega), Bool.true_and]
        exact decide_eq_decide.mpr ⟨fun h => by omega, fun h => by omega⟩
      · rw [nm]
        unfold letC
        rw [decide_eq_false (p := 97 ≤ c) (by omega), Bool.false_and]
    · have al : ((tl z).all fun c => letC c || digC c) = false := by
        cases e : (tl z).all fun c => letC c || digC c with
        | false => rfl
        | true => exact absurd (pl.mpr e) (by omega)
      rw [nm, al, Bool.and_false]
end
end K01
/-! a def that is handed the exception which is handled; isinstance of it -/
namespace HotExc
open PySem PySem.Spec PyProof.Rows L2 L2H
/-- isinstance(e, c), e an exception that stands pinned, its own dict (where it has one) tracked -/
def rIsP (K : PySem.W.Frag) (D a : Addr) (d : Option Addr) (xs : List V) (H : Hp) (Q : VK) : Prop :=
  ∃ c, xs = [.ref a, c] ∧ ∃ cv : Value, (∀ u, RelV c u → u = cv) ∧ ∃ b, PySem.W.kitOne K (.ref D) cv = some b ∧ (∀ dx, d = some dx → ∃ fs, H dx = some (.xd fs)) ∧ Q (.bl b) H
theorem call_isP {X : Cx} {a D : Addr} {oe : Obj} {d : Option Addr} (C : ExcC X.K D) (hp : (a, oe) ∈ X.pn) (hz : Zc (.ref D) d oe) (hf : ∃ vs, oe.data = .fields vs) : CallR X (.builtin "isinstance") (rIsP X.K D a d) := by
  intro pins s σ H xs us Q I r want
  obtain ⟨c, rfl, cv, only, b, hb, hd, q⟩ := want
  match us, r with
  | [u, u2], .cons ru (.cons r2 .nil) =>
    obtain rfl : u = Value.ref a := ru
    obtain rfl := only _ r2
    have pinned := (I.pin (a, oe) (List.mem_append_left _ hp)).1
    obtain ⟨vs, hv⟩ := hf
    have nc : PySem.W.notCls oe = true := by
      unfold PySem.W.notCls
      rw [hv]
    have J : ∃ od, PySem.W.InstAt s.heap a oe D od := by
      cases d with
      | none => exact ⟨none, pinned, hz.1, nc, by rw [hz.2]; trivial⟩
      | some dx =>
        obtain ⟨fs, e⟩ := hd dx rfl
        have ob : ObjOk X.prog X.w H s.heap dx (.xd fs) := I.hok dx _ e
        obtain ⟨mA, hns, _⟩ := ob
        obtain ⟨od, ho, _⟩ := lookIn_ns hns
        exact ⟨some od, pinned, hz.1, nc, by rw [hz.2]; exact ho⟩
    obtain ⟨od, J⟩ := J
    have hcl : (PySem.W.clsIn X.K D).isSome = true := by
      obtain ⟨cd, hc, _⟩ := PySem.W.any_some C.hd
      rw [hc]
      rfl
    exact PySem.W.kia_one (PySem.W.kitx_exc hcl C.hg C.hk C.hs C.ha C.hn C.ht C.hm) I.kIn J hb (fun z => nomatch z) fun tk => ⟨.bl b, H, I.kept (t' := tk) fun _ _ z => z, rfl, q⟩
/-- what a def promises that is called while p's exception is handled, and is told of it -/
structure FnE (P : Program) (w : World) (K : PySem.W.Frag) (mg : Str → Option Value) (base : Heap) (CX : CXT) (k : Nat) (f : Addr) (fd : FuncData) (ps : List Str) (sp : Addr × Obj → Sp) : Prop where
  size : ∀ p vs H Q E, sp p vs H Q E → vs.length = ps.length
  go : ∀ (p : Addr × Obj) (A : Around) (outer : List Env) (s : Shared) (H : Hp) (us : List Value) (vs : List V) (Q : VK) (E : XK), RoomH k A → Hot1 A p → PinOk outer H s p → Env0 P w K mg base A outer s H → BindsTo s fd ⟨us, []⟩ (ps.zip us) → Vals vs us → sp p vs H Q E →
    codeAny (model P w) A (.call (.ref f) ⟨us, []⟩) (CR CX outer P w H s Q E) s
theorem FnE.of {CX : CXT} {P : Program} {w : World} {K : PySem.W.Frag} {mg : Str → Option Value} {base : Heap} {k : Nat} {x qual : Str} {st : Stmt} {f : Addr} {fd : FuncData} {N ps : List Str} {sp : Addr × Obj → Sp} (F : Fun K x qual st f fd) (S : FnScope N ps (defScope st))
    (size : ∀ p vs H Q E, sp p vs H Q E → vs.length = ps.length)
    (body : ∀ (p : Addr × Obj) (cdv : Value) (A : Around) (outer : List Env) (s : Shared) (H : Hp) (vs : List V) (Q : VK) (E : XK), Hot1 A p → RoomH k (A.deeper (envOfC qual (defScope st) s.heap.objs.size f cdv)) → sp p vs H Q E →
      ∃ t, PSs (cxH CX P w K mg base N qual (defScope st) f cdv A outer s H E p) (defBody st) t ∧ t { nx := fun _ H' => Q .non H', rt := Q } (L2.start N vs) H) : FnE P w K mg base CX (k + 1) f fd ps sp := by
  obtain ⟨oc, od, kV, doc, pm, an, cdv, ct, osl, rfl, lk, hcd⟩ := F.ex
  refine ⟨size, ?_⟩
  intro p A outer s H us vs Q E room hot pin e0 hb r want
  have n := size _ _ _ _ _ want
  have inK : K.In s.heap := e0.mod.kin.keeps fun b o z => (e0.bs b o z).1
  have noLim := e0.mod.nolimit.keeps fun b o z => (e0.bs b o z).1
  have kinds : ∀ y ∈ ps.zip us, (defScope st).names.lookup y.1 = some .local ∨ ((defScope st).names.lookup y.1 = some .cell ∧ ((cellsFrom (s.heap.objs.size + 1) (defScope st).names []).lookup y.1).isSome = true) := by
    rintro ⟨m, v⟩ hy
    cases S.par m (List.of_mem_zip hy).1 with
    | inl q => exact .inl q
    | inr q => exact .inr ⟨q, PySem.W.cellsFrom_some _ _ _ (.inl q)⟩
  refine codeAny_call_function room.depth (inK _ _ lk) rfl S.co S.gen rfl (PySem.W.codeRec_of inK hcd) (hb _ _ _ _ ?_)
  refine wpAny_newFunctionEnv_cells S.kind kinds fun env he s1 y => ?_
  subst he
  refine ⟨noLim.keeps y.toInCall.keep, codeAny_func ?_⟩
  obtain ⟨t, runs, reads⟩ := body p cdv A outer s H vs Q E hot (room.deeper _) want
  have start := inv_startH (CX := CX) (E := E) S pin e0 n r y
  refine wpAny_mono (runs.run [] s1 (L2.start N vs) H _ start reads) (fun fl s' hs => ?_) fun _ _ z => z
  match fl, hs with
  | .ret u, ⟨v, σ', H', J, rv, q⟩ => exact ⟨v, H', J.os, J.bare, J.base, J.hok, rv, q⟩
  | .next, ⟨σ', H', J, q⟩ => exact ⟨.non, H', J.os, J.bare, J.base, J.hok, rfl, q⟩
  | .brk, ⟨_, _, _, q⟩ => exact q.elim
  | .cont, ⟨_, _, _, q⟩ => exact q.elim
section
variable {X : Cx} {CX : CXT} {k : Nat} {f : Addr} {fd : FuncData} {ps : List Str} {sp : Addr × Obj → Sp} {E : L2.St → XK} {x : Str} {q pos : Pos} {e : Expr} {es : List Expr} {t : TA}
/-- the call of such a def, p pinned -/
theorem pe_callE {p : Addr × Obj} (F : FnE X.prog X.w X.K X.mg X.base CX k f fd ps sp) (room : RoomH k X.A) (hot : Hot1 X.A p) (inX : p ∈ X.pn) (hg : Gl X x) (hm : X.mg x = some (.ref f)) (hk : PySem.W.keepIn X.K (.ref f) = true) (hb : Binds X.K fd ps []) (hx : ∀ σ, PassesAt CX X σ (E σ))
    (ha : PA X (e :: es) t) (hdb : (x == ("__debug__" : Str)) = false := by decide) (he : starEach (e :: es) X.env = (false, eval e X.env) :: starEach es X.env := by rfl) (hpl : (backTo pos (starEach es X.env)).any (·.1) = false := by rfl) :
    PE X (.Call (.Name x q) (e :: es) [] pos) (tCallS (sp p) E t) := by
  refine ⟨fun pins s σ H Q I want => ?_⟩
  refine wpAny_Call_Name_kw (ld_glob I hg hm ?_ hdb)
  refine PySem.W.callWith_K (h₀ := X.base) I.ok.mod.kin hk (thn (ha.run pos pins s σ H _ I want) fun us s1 ⟨vs, H1, I1, r, want1⟩ => ⟨I1.kIn, ?_⟩) he hpl
  have n : us.length = ps.length := by
    rw [← r.length]
    exact F.size _ _ _ _ _ want1
  have b := hb s1 us I1.kIn (by rw [List.append_nil]; exact n)
  rw [List.append_nil] at b
  have P1 := I1.pin p (List.mem_append_left _ inX)
  have pin : PinOk X.stack H1 s1 p := by
    refine ⟨P1.1, P1.2.1, fun hm => ?_, P1.2.2.2.2⟩
    cases List.mem_cons.mp (I1.stkSub p.1 hm) with
    | inl z => exact P1.2.2.1 z
    | inr z => exact P1.2.2.2.1 z
  refine wpAny_call (codeAny_mono (F.go p X.A X.stack s1 H1 us vs Q (E σ) room hot pin I1.env0 b r want1) fun r s' out => ?_)
  match r, out with
  | .error e, out => exact hx σ pins H1 s1 e s' I1 out
  | .ok (.ret u), out => exact I1.after out
  | .ok .next, out => exact out.elim
  | .ok .brk, out => exact out.elim
  | .ok .cont, out => exact out.elim
end
/-- C(e, ..) with an own __init__, the context of what is made None -/
theorem pmkN {X : Cx} {CX : CXT} {x : Str} {C fI : Addr} {k : Nat} {fd : FuncData} {ps : List Str} {sp : Sp} {e : Expr} {es : List Expr} {ta : TA} {p pos : Pos} (T : OexC X.K C) (hi : PySem.W.findIn X.K (.ref C) "__init__" = some (some (.ref fI))) (ti : PySem.W.typeIn X.K (.ref fI) = some (.type "function"))
    (Fi : FnOk X.prog X.w X.K X.mg X.base CX k fI fd ps sp) (room : Room (k + 1) X.A) (hb : Binds X.K fd ps []) (hx : Passes CX X (fun _ _ _ => False)) (hg : Gl X x) (hm : X.mg x = some (.ref C)) (ha : PA X (e :: es) ta)
    (hdb : (x == ("__debug__" : Str)) = false := by decide) (he : starEach (e :: es) X.env = (false, eval e X.env) :: starEach es X.env := by rfl) (hpl : (backTo pos (starEach es X.env)).any (·.1) = false := by rfl) :
    L2N.PMk X (.Call (.Name x p) (e :: es) [] pos) (tMkO C sp [] ta) := by
  intro pins s σ H Q I want
  obtain ⟨nm, ql, N, bs, bm, sn, sub, ab, col, dd, k0, k1, k2, k3, k5, atC, chain⟩ := T.cls
  refine wpAny_Call_Name_kw (ld_glob I hg hm ?_ hdb)
  refine PySem.W.callWith_K (h₀ := X.base) I.ok.mod.kin T.kC (thn (ha.run pos pins s σ H _ I want) fun us s1 got => ?_) he hpl
  obtain ⟨vs, H1, I1, r1, few, q1⟩ := got
  refine ⟨I1.kIn, ?_⟩
  obtain ⟨hp, g, dr, tk, os⟩ := s1
  have up : hp.objs.size ≤ hp.objs.size + 1 := Nat.le_add_right _ _
  have want1 := q1 (hp.objs.size + 1) (I1.hok.fresh up)
  rw [List.append_nil] at want1
  obtain ⟨hp', eh⟩ : ∃ z, z = (hp.push (PySem.W.kdv_tup us)).push (PySem.HandSPX.excO C hp.objs.size) := ⟨_, rfl⟩
  have keep : ∀ b o, hp.get? b = some o → hp'.get? b = some o := by
    intro b o z
    rw [eh]
    exact (Heap.get?_push_of_some _ (Heap.get?_push_of_some _ z))
  have there : hp'.get? (hp.objs.size + 1) = some (PySem.HandSPX.excO C hp.objs.size) := by
    rw [eh]
    heap_get
  have I2 : Inv X pins σ (L2.upd H1 (hp.objs.size + 1) (exo (hp.objs.size + 1) C none)) ⟨hp', g, dr, tk, os⟩ := I1.laid (t' := tk) keep up (exo_ok there)
  have r2 : Vals (V.ref (hp.objs.size + 1) :: vs) (Value.ref (hp.objs.size + 1) :: us) := .cons rfl r1
  have n : (Value.ref (hp.objs.size + 1) :: us).length = ps.length := by
    rw [← r2.length]
    exact Fi.len _ _ _ _ want1
  have b := hb ⟨hp', g, dr, tk, os⟩ (Value.ref (hp.objs.size + 1) :: us) I2.kIn (by rw [List.append_nil]; exact n)
  rw [List.append_nil] at b
  have short : us.length ≤ sizeLine := by
    rw [← r1.length, sizeLine_eq]
    omega
  refine wpAny_call (PySem.HandSPX.call_own F.excBase_ValueError (fun Y => PySem.HandSPX.refsVE_contains Y bm chain) (I1.kIn _ _ atC) (PySem.W.looks_findIn I1.kIn hi) (fun self => PySem.W.bind_fn I1.kIn self ti) short ?_)
  rw [List.nil_append, ← eh]
  refine codeAny_mono (Fi.run _ X.stack _ _ ⟨Value.ref (hp.objs.size + 1) :: us, []⟩ _ _ _ (fun _ _ _ => False) (room.make C us []) (I2.env0.make C us []) b r2 want1) fun r s' out => ?_
  match r, out with
  | .error er, out => exact hx pins σ _ _ er s' I2 out
  | .ok (.ret u), out =>
    obtain ⟨v, H2, os2, bare2, un2, hok2, rv, ev, d, fs, ea, ed, hd1, q2⟩ := out
    subst ev
    obtain ⟨h2, g2, d2, t2, os'⟩ := s'
    refine ⟨rv, ?_⟩
    obtain ⟨t0, G, J, kG, ge, hoe, na⟩ := mk_end0 (d2 := d2) (t2 := t2) I1 up keep un2 hok2 os2 bare2 ea ed hd1
    exact ⟨_, _, _, ⟨G, g2, d2, t2, os'⟩, _, .ref C, some d, rfl, J, kG, ge, hoe, ⟨rfl, rfl, fun vs z => by cases z; rfl⟩, rfl, rfl, na, rfl, bare2, raises_own T.exC T.tyC, q2⟩
  | .ok .next, out => exact out.elim
  | .ok .brk, out => exact out.elim
  | .ok .cont, out => exact out.elim
end HotExc
namespace K01
open PySem PySem.Spec PyProof.Rows L2 TL HotExc
local macro_rules | `(tactic| walk_at "rd") => `(tactic| simp only [start1, wipe, isR, isBool, isInt, isStr, isLst, isTup, tAsg, gName, gSub, tVar, tC, tOp, tUn, tTest, tIfS, tRet, tRetN, tDrop, tB, tAnd, tOr, tNot, tAndV, tOrV, tNotV, tIf, tCB, tCons, tNil, tNext, tCall, tBM, tTup, tLst, rI0, rI, rEq, rNe, scal, forR_eq, forR2_eq, forS_eq, forL_eq, lcL_eq, lcR_eq, lcS_eq, rLenX, rLenS, rMulS, rRepL, rCatL, tPart, tNoPart, CwR.tReplC, rAllK, rInSg, rNinSg, sgn_inj, rAddS, rInSt, tChain, tM1, tM0, rSplitN, rJoinN, exists_eq, rIntI, rIntB, rIntS, rStrI, rAbs, rOrd, rMin, rMax, rIxL, rIxX, rSetL, rAppend, rIxS, rSlS, rSlL, tSl, List.map_cons, List.map_nil, List.replicate_succ, List.replicate_zero, List.length_cons, List.length_nil, Nat.reduceSub, Nat.reduceAdd, Nat.zero_add, Nat.sub_self, List.getElem?_cons_zero, List.getElem?_cons_succ, List.set_cons_zero, List.set_cons_succ, List.append_nil, List.nil_append, List.cons_append, Option.some.injEq, not_true_eq_false, reduceCtorEq, exists_eq_left', exists_eq_left, exists_eq', exists_and_left, exists_and_right, V.int.injEq, V.str.injEq, V.bl.injEq, V.ref.injEq, List.cons.injEq, and_true, true_and, and_assoc, decide_eq_true_eq, Bool.not_eq_true', decide_eq_false_iff_not, ite_true, ite_false, if_true, if_false, Bool.not_true, Bool.not_false, Bool.false_eq_true, eq_self_iff_true, reduceIte, ne_eq, Int.reduceEq, not_false_eq_true])
local macro_rules | `(tactic| walk_at "rt") => `(tactic| try walk_at "rd")
local macro_rules | `(tactic| walk_at "st") => `(tactic| (walk_at "rt"; refine r_seq ?_; walk_at "rt"))
local macro_rules | `(tactic| walk_at "hp") => `(tactic| first | assumption | exact upd_same | (rw [upd_ne (by assumption)]; walk_at "hp"))
local macro_rules | `(tactic| walk_at "ex1") => `(tactic| ((with_reducible refine Exists.intro ?w (And.intro ?hx ?_)); (case hx => first | exact sq_of (by walk_at "hp") | exact .inl (sq_of (by walk_at "hp")) | exact rfl | (show _ = some (HO.lst _); walk_at "hp"))))
local macro_rules | `(tactic| walk_at "ex") => `(tactic| repeat (first | walk_at "ex1" | walk_at "rd"))
abbrev s_checkhand : Stmt := topS 45
theorem sc_checkhand : FnScope ["hand"] ["hand"] (defScope s_checkhand) := ⟨rfl, rfl, rfl, by decide +kernel, rfl, by decide +kernel, by decide +kernel⟩
/-- a class's own def -/
def clsS (i j : Nat) : Stmt := match topS i with
  | .ClassDef _ _ _ b _ _ _ _ _ _ _ => b.getD j (.Pass ⟨0, 0, 0, 0⟩)
  | _ => .Pass ⟨0, 0, 0, 0⟩
abbrev s_iNoHand : Stmt := clsS 3 0
abbrev s_iBadNumber : Stmt := clsS 2 0
theorem sc_iNoHand : FnScope ["self", "hand"] ["self", "hand"] (defScope s_iNoHand) := ⟨rfl, rfl, rfl, by decide +kernel, rfl, by decide +kernel, by decide +kernel⟩
theorem sc_iBadNumber : FnScope ["self", "what", "value"] ["self", "what", "value"] (defScope s_iBadNumber) := ⟨rfl, rfl, rfl, by decide +kernel, rfl, by decide +kernel, by decide +kernel⟩
def spIni1 (C : Addr) (fld : Str) : Sp := fun vs H Q _ => ∃ a y, vs = [.ref a, y] ∧ H a = some (exo a C none) ∧ ∀ dx, H dx = none → dx ≠ a → Q .non (L2.upd (L2.upd H dx (exd dx [(fld, y)])) a (exo a C (some dx)))
def spIni2 (C : Addr) (f1 f2 : Str) : Sp := fun vs H Q _ => ∃ a y z, vs = [.ref a, y, z] ∧ H a = some (exo a C none) ∧ ∀ dx, H dx = none → dx ≠ a → Q .non (L2.upd (L2.upd (L2.upd H dx (exd dx [(f1, y)])) a (exo a C (some dx))) dx (exd dx [(f2, z), (f1, y)]))
section
variable {P : Program} {w : World} {K : PySem.W.Frag} {mg : Str → Option Value} {base : Heap}
/-- a def that may let an exception out, its context None -/
theorem okN {x qual : Str} {st : Stmt} {f : Addr} {fd : FuncData} {N ps : List Str} {k : Nat} {sp : Sp} (F : Fun K x qual st f fd) (S : FnScope N ps (defScope st)) (len : ∀ vs H Q E, sp vs H Q E → vs.length = ps.length)
    (body : ∀ (cdv : Value) (A : Around) (outer : List Env) (s : Shared) (H : Hp) (vs : List V) (Q : VK) (E : XK), Room k (A.deeper (envOfC qual (defScope st) s.heap.objs.size f cdv)) → sp vs H Q E →
      ∃ t, PSs (cxOf (L2N.CX P w) P w K mg base N qual (defScope st) f cdv A outer s H E) (defBody st) t ∧ t { nx := fun _ H' => Q .non H', rt := Q } (L2.start N vs) H) : FnOk P w K mg base (L2N.CX P w) (k + 1) f fd ps sp := by
  obtain ⟨oc, od, kV, doc, pm, an, cdv, ct, osl, rfl, lk, hcd⟩ := F.ex
  refine fn_of lk hcd S len ?_
  intro A outer s H vs Q E hr h
  exact body cdv A outer s H vs Q E hr h
theorem ok_iNoHand {C f : Addr} {fd : FuncData} (T : OexC K C) (no : PySem.W.findIn K (.ref C) "hand" = some none) (F : Fun K "__init__" "NoHand.__init__" s_iNoHand f fd) : FnOk P w K mg base CX0 1 f fd ["self", "hand"] (spIni1 C "hand") := by
  refine F.ok sc_iNoHand (fun vs H Q E h => ?_) (fun cdv A outer s H vs Q E hr h => ?_)
  · obtain ⟨a, y, rfl, _⟩ := h
    rfl
  · obtain ⟨a, y, rfl, ha, q⟩ := h
    exact ⟨_, (pss_one (ps_ost (pv 0) (pv 1))), _, rfl, _, rfl, a, C, rfl, T, no, .inl ⟨ha, fun dx n ne => q dx n ne⟩⟩
/-- what is known of an own exception class -/
structure Exn (K : PySem.W.Frag) (mg : Str → Option Value) (x : Str) (C fI : Addr) : Prop where
  oex : OexC K C
  g : mg x = some (.ref C)
  ini : PySem.W.findIn K (.ref C) "__init__" = some (some (.ref fI))
  fn : PySem.W.typeIn K (.ref fI) = some (.type "function")
theorem mk_same {H : Hp} {a d : Addr} {u v w x : HO} (na : H a = none) (ne : d ≠ a) : L2.upd (del (L2.upd (L2.upd (L2.upd H a u) d v) a w) a) d x = L2.upd H d x := by
  funext b
  by_cases h1 : b = d
  · rw [h1, upd_same, upd_same]
  · rw [upd_ne h1, upd_ne h1]
    by_cases h2 : b = a
    · rw [h2, del_same, na]
    · rw [del_ne h2, upd_ne h2, upd_ne h1, upd_ne h2]
theorem mk1 {C : Addr} {fld : Str} {y : V} {H : Hp} {Q : XK} (q : ∀ d, H d = none → Q (.ref C) (some d) (L2.upd H d (.xd [(fld, y)]))) : [y].length ≤ 1000 ∧ ∀ a, H a = none → spIni1 C fld (.ref a :: ([y] ++ [])) (L2.upd H a (exo a C none))
    (fun v H2 => v = .non ∧ ∃ (d : Addr) (fs : List (Str × V)), H2 a = some (exo a C (some d)) ∧ H2 d = some (exd d fs) ∧ H d = none ∧ Q (.ref C) (some d) (L2.upd (del H2 a) d (.xd fs))) (fun _ _ _ => False) := by
  refine ⟨by rw [List.length_singleton]; decide, fun a na => ⟨a, y, rfl, upd_same, fun dx n ne => ?_⟩⟩
  have n' : H dx = none := (upd_ne ne).symm.trans n
  refine ⟨rfl, dx, _, upd_same, (upd_ne ne).trans upd_same, n', ?_⟩
  rw [mk_same na ne]
  exact q dx n'
theorem inV_strs (z : Str) : ∀ ws : List Str, inV (.str z) (ws.map V.str) = decide (z ∈ ws)
  | [] => rfl
  | y :: ws => by
    have ih := inV_strs z ws
    unfold inV at ih ⊢
    rw [List.map_cons, List.any_cons, ih]
    show ((y == z) || decide (z ∈ ws)) = decide (z ∈ y :: ws)
    by_cases h : y = z
    · subst h
      simp
    · have e : (y == z) = false := by simpa using h
      rw [e, Bool.false_or]
      exact decide_eq_decide.mpr ⟨fun m => List.mem_cons_of_mem _ m, fun m => (List.mem_cons.mp m).elim (fun z' => absurd z'.symm h) id⟩
def hands : List Str := [Str.ofString "dark", Str.ofString "light"]
def spCheck (C : Addr) : Sp := fun vs H Q E => ∃ z, vs = [.str z] ∧ (z ∈ hands → Q .non H) ∧ (z ∉ hands → ∀ d, H d = none → E (.ref C) (some d) (L2.upd H d (.xd [(("hand" : Str), .str z)])))
theorem ok_checkhand {C fI f aH : Addr} {fdI fd : FuncData} (X : Exn K mg "NoHand" C fI) (bI : Binds K fdI ["self", "hand"] []) (GI : FnOk P w K mg base CX0 1 fI fdI ["self", "hand"] (spIni1 C "hand")) (D : Dn K mg "check_hand" s_checkhand ["hand"] f fd)
    (gc_HANDS : mg "HANDS" = some (.ref aH)) (atH : ∀ H, SqT K H aH (hands.map V.str)) : FnOk P w K mg base (L2N.CX P w) 3 f fd ["hand"] (spCheck C) := by
  refine okN D.F sc_checkhand (fun vs H Q E h => ?_) (fun cdv A outer s H vs Q E hr h => ?_)
  · obtain ⟨z, rfl, _⟩ := h
    rfl
  · obtain ⟨z, rfl, h1, h2⟩ := h
    refine ⟨_, (pss_one (ps_if (pt_cmpR op_notIn_seq (pv 0) (pe_glob (v := .ref aH) (by rfl) gc_HANDS rfl) (by rfl)) (pss_one (L2N.ps_raise rfl (L2N.takes_of rfl rfl rfl rfl) (pmkN X.oex X.ini X.fn GI (hr.mono (by omega)) bI pass0 (by rfl) X.g (pa_cons (pv 0) pa_nil)))) pss_nil)), ?_⟩
    walk_at "rt"
    refine ⟨aH, _, rfl, .inr (atH H), rfl, by decide +kernel, _, rfl, ite2 (fun e => ?_) (fun e => ?_)⟩
    · refine ⟨_, rfl, mk1 (h2 fun hz => ?_)⟩
      rw [inV_strs, decide_eq_true hz] at e
      cases e
    · refine h1 ?_
      rw [inV_strs] at e
      cases hz : decide (z ∈ hands) with
      | true => exact of_decide_eq_true hz
      | false => exact absurd (by rw [hz]; rfl) e
end
end K01
/-! d.get(k), d a dict of the module that stands as it was written -/
namespace HotExc
open PySem PySem.Spec PyProof.Rows L2
/-- what such a dict says of a key -/
def Says (K : PySem.W.Frag) (a : Addr) (z : Str) (v : V) : Prop := ∃ r, PySem.W.nsIn K a z = some r ∧ ((∃ u, r = some u ∧ RelV v u) ∨ (r = none ∧ v = .non))
def Writ (K : PySem.W.Frag) (w : World) (a : Addr) : Prop := ∃ es n, K.lookup a = some ⟨.type "dict", none, .dict es n, #[]⟩ ∧ PySem.W.KeysLit w.params es.toList ∧ (a == sysModules) = false
def tKGet (K : PySem.W.Frag) (w : World) (td ty : TE) : TE := fun σ H Q => td σ H fun x H1 => ∃ a, x = .ref a ∧ Writ K w a ∧ ty σ H1 fun y H2 => ∃ z, y = .str z ∧ ∃ v, Says K a z v ∧ Q v H2
section
variable {X : Cx} {o e : Expr} {apos cpos : Pos} {td ty : TE}
theorem pe_kget (ho : PE X o td) (he : PE X e ty) (m : M1 X o "get" apos e cpos) : PE X (.Call (.Attribute o "get" apos) [e] [] cpos) (tKGet X.K X.w td ty) := by
  refine ⟨fun pins s σ H Q I want => ?_⟩
  refine wpAny_Call_method m.base m.few m.line PySem.F.plainAttrs_dict PySem.F.slot_dict_get PySem.F.type_dict_get (thn (ho.run pins s σ H _ I want) fun u s1 got => ?_)
  obtain ⟨x, H1, I1, rx, a, rfl, ⟨es, n, at_, keys, low⟩, q1⟩ := got
  obtain rfl : u = Value.ref a := rx
  have is1 := PySem.W.mapOf_K (prog := X.prog) (w := X.w) I1.kIn at_ keys
  refine ⟨is1.typeIs, fun b eb => ?_, ?_⟩
  · cases eb
    exact ⟨_, I1.kIn _ _ at_, rfl⟩
  rw [m.trees]
  refine Calls.callWith_builtin rfl (Calls.evalArgs_plain (Calls.spliced_cons (thn (he.run pins s1 σ H1 _ I1 q1) fun iv s2 got => Calls.spliced_nil ?_)))
  obtain ⟨y, H2, I2, ry, z, rfl, v, ⟨r, er, hv⟩, q2⟩ := got
  obtain ⟨t, rfl⟩ := (show ∃ t, iv = Value.str z t from ry)
  have is2 := PySem.W.mapOf_K (prog := X.prog) (w := X.w) I2.kIn at_ keys
  have ef : findBy Value.isStrOf es z = r := PySem.W.find_K at_ er
  refine call_meetsIn PySem.F.slot_dict_get is2.typeIs PySem.F.entry_dict_get (PySem.F.args_dict_get_2 _ _) (meets_dict_get (strKind X.prog X.w) a (strKind_is X.prog X.w z t) low) ⟨_, is2, ⟨v, H2, I2.tok _, ?_, q2⟩⟩
  show RelV v ((findBy Value.isStrOf es z).getD .none)
  rw [ef]
  rcases hv with ⟨u, rfl, ru⟩ | ⟨rfl, rfl⟩
  · exact ru
  · rfl
end
end HotExc
namespace K01
open PySem PySem.Spec PyProof.Rows L2 TL HotExc
local macro_rules | `(tactic| walk_at "rd") => `(tactic| simp only [start1, wipe, isR, isBool, isInt, isStr, isLst, isTup, tAsg, gName, gSub, tVar, tC, tOp, tUn, tTest, tIfS, tRet, tRetN, tDrop, tB, tAnd, tOr, tNot, tAndV, tOrV, tNotV, tIf, tCB, tCons, tNil, tNext, tCall, tBM, tTup, tLst, rI0, rI, rEq, rNe, scal, forR_eq, forR2_eq, forS_eq, forL_eq, lcL_eq, lcR_eq, lcS_eq, rLenX, rLenS, rMulS, rRepL, rCatL, tPart, tNoPart, CwR.tReplC, rAllK, rInSg, rNinSg, sgn_inj, rAddS, rInSt, tChain, tM1, tM0, rSplitN, rJoinN, exists_eq, rIntI, rIntB, rIntS, rStrI, rAbs, rOrd, rMin, rMax, rIxL, rIxX, rSetL, rAppend, rIxS, rSlS, rSlL, tSl, List.map_cons, List.map_nil, List.replicate_succ, List.replicate_zero, List.length_cons, List.length_nil, Nat.reduceSub, Nat.reduceAdd, Nat.zero_add, Nat.sub_self, List.getElem?_cons_zero, List.getElem?_cons_succ, List.set_cons_zero, List.set_cons_succ, List.append_nil, List.nil_append, List.cons_append, Option.some.injEq, not_true_eq_false, reduceCtorEq, exists_eq_left', exists_eq_left, exists_eq', exists_and_left, exists_and_right, V.int.injEq, V.str.injEq, V.bl.injEq, V.ref.injEq, List.cons.injEq, and_true, true_and, and_assoc, decide_eq_true_eq, Bool.not_eq_true', decide_eq_false_iff_not, ite_true, ite_false, if_true, if_false, Bool.not_true, Bool.not_false, Bool.false_eq_true, eq_self_iff_true, reduceIte, ne_eq, Int.reduceEq, not_false_eq_true])
local macro_rules | `(tactic| walk_at "rt") => `(tactic| try walk_at "rd")
local macro_rules | `(tactic| walk_at "st") => `(tactic| (walk_at "rt"; refine r_seq ?_; walk_at "rt"))
local macro_rules | `(tactic| walk_at "hp") => `(tactic| first | assumption | exact upd_same | (rw [upd_ne (by assumption)]; walk_at "hp"))
local macro_rules | `(tactic| walk_at "ex1") => `(tactic| ((with_reducible refine Exists.intro ?w (And.intro ?hx ?_)); (case hx => first | exact sq_of (by walk_at "hp") | exact .inl (sq_of (by walk_at "hp")) | exact rfl | (show _ = some (HO.lst _); walk_at "hp"))))
local macro_rules | `(tactic| walk_at "ex") => `(tactic| repeat (first | walk_at "ex1" | walk_at "rd"))
abbrev s_otherhand : Stmt := topS 46
theorem sc_otherhand : FnScope ["hand"] ["hand"] (defScope s_otherhand) := ⟨rfl, rfl, rfl, by decide +kernel, rfl, by decide +kernel, by decide +kernel⟩
abbrev s_signof : Stmt := topS 47
theorem sc_signof : FnScope ["hand"] ["hand"] (defScope s_signof) := ⟨rfl, rfl, rfl, by decide +kernel, rfl, by decide +kernel, by decide +kernel⟩
abbrev s_handof : Stmt := topS 48
theorem sc_handof : FnScope ["sign"] ["sign"] (defScope s_handof) := ⟨rfl, rfl, rfl, by decide +kernel, rfl, by decide +kernel, by decide +kernel⟩
/-- what a hand's def tells of a word: by the list of pairs, else NoHand -/
def spHand (C : Addr) (ps : List (Str × Str)) : Sp := fun vs H Q E => ∃ z, vs = [.str z] ∧ (∀ y, ps.lookup z = some y → Q (.str y) H) ∧ (z ∉ hands → ∀ d, H d = none → E (.ref C) (some d) (L2.upd H d (.xd [(("hand" : Str), .str z)])))
def others : List (Str × Str) := [(Str.ofString "dark", Str.ofString "light"), (Str.ofString "light", Str.ofString "dark")]
def signs : List (Str × Str) := [(Str.ofString "dark", Str.ofString "d"), (Str.ofString "light", Str.ofString "l")]
def handsOf : List (Str × Str) := [(Str.ofString "d", Str.ofString "dark"), (Str.ofString "l", Str.ofString "light")]
def spHandOf : Sp := fun vs H Q _ => ∃ z, vs = [.str z] ∧ Q (match handsOf.lookup z with | some y => .str y | none => .non) H
theorem hands_two {z : Str} (h : z ∈ hands) : z = Str.ofString "dark" ∨ z = Str.ofString "light" := by
  unfold hands at h
  simpa using h
theorem dark_light : Str.ofString "dark" ≠ Str.ofString "light" := by decide +kernel
section
variable {P : Program} {w : World} {K : PySem.W.Frag} {mg : Str → Option Value} {base : Heap}
theorem ok_otherhand {C f f_check : Addr} {fd fd_check : FuncData} {t1 t2 : Tok} (D : Dn K mg "other_hand" s_otherhand ["hand"] f fd) (D_checkhand : Dn K mg "check_hand" s_checkhand ["hand"] f_check fd_check)
    (gc_DARK : mg "DARK" = some (.str (Str.ofString "dark") t1)) (gc_LIGHT : mg "LIGHT" = some (.str (Str.ofString "light") t2))
    (G_checkhand : FnOk P w K mg base (L2N.CX P w) 3 f_check fd_check ["hand"] (spCheck C)) : FnOk P w K mg base (L2N.CX P w) 4 f fd ["hand"] (spHand C others) := by
  refine okN D.F sc_otherhand (fun vs H Q E h => ?_) (fun cdv A outer s H vs Q E hr h => ?_)
  · obtain ⟨z, rfl, _⟩ := h
    rfl
  · obtain ⟨z, rfl, h1, h2⟩ := h
    refine ⟨_, (pss_cons (ps_expr (pe_callS G_checkhand (hr.mono (by omega)) (by rfl) D_checkhand.g D_checkhand.F.kp D_checkhand.b (fun σ => L2N.passAt (L2N.takes_of rfl rfl rfl rfl) σ) (pa_cons (pv 0) pa_nil)))
      (pss_cons (ps_if (pt_cmpR op_eq (pv 0) (pe_glob (v := .str (Str.ofString "dark")) (by rfl) gc_DARK ⟨_, rfl⟩) (nomark _)) (pss_one (ps_ret (pe_glob (v := .str (Str.ofString "light")) (by rfl) gc_LIGHT ⟨_, rfl⟩))) pss_nil)
      (pss_one (ps_ret (pe_glob (v := .str (Str.ofString "dark")) (by rfl) gc_DARK ⟨_, rfl⟩))))), ?_⟩
    walk_at "st"
    refine ⟨_, rfl, z, rfl, fun hz => ?_, fun hz d hd => h2 hz d hd⟩
    walk_at "st"
    rcases hands_two hz with rfl | rfl
    · exact ite2 (fun _ => h1 _ rfl) (fun e => absurd rfl e)
    · exact ite2 (fun e => absurd e.symm dark_light) (fun _ => h1 _ rfl)
theorem ok_signof {C f f_check aS : Addr} {fd fd_check : FuncData} (D : Dn K mg "sign_of" s_signof ["hand"] f fd) (D_checkhand : Dn K mg "check_hand" s_checkhand ["hand"] f_check fd_check)
    (gc_SIGN_OF_HAND : mg "SIGN_OF_HAND" = some (.ref aS)) (at1 : KDct K w aS (Str.ofString "dark") (.str (Str.ofString "d"))) (at2 : KDct K w aS (Str.ofString "light") (.str (Str.ofString "l")))
    (G_checkhand : FnOk P w K mg base (L2N.CX P w) 3 f_check fd_check ["hand"] (spCheck C)) : FnOk P w K mg base (L2N.CX P w) 4 f fd ["hand"] (spHand C signs) := by
  refine okN D.F sc_signof (fun vs H Q E h => ?_) (fun cdv A outer s H vs Q E hr h => ?_)
  · obtain ⟨z, rfl, _⟩ := h
    rfl
  · obtain ⟨z, rfl, h1, h2⟩ := h
    refine ⟨_, (pss_cons (ps_expr (pe_callS G_checkhand (hr.mono (by omega)) (by rfl) D_checkhand.g D_checkhand.F.kp D_checkhand.b (fun σ => L2N.passAt (L2N.takes_of rfl rfl rfl rfl) σ) (pa_cons (pv 0) pa_nil)))
      (pss_one (ps_ret (pe_ix ix_kdict (pe_glob (v := .ref aS) (by rfl) gc_SIGN_OF_HAND rfl) (pv 0) (fun _ _ => rfl))))), ?_⟩
    walk_at "st"
    refine ⟨_, rfl, z, rfl, fun hz => ?_, fun hz d hd => h2 hz d hd⟩
    walk_at "rt"
    rcases hands_two hz with rfl | rfl
    · exact ⟨aS, _, _, rfl, rfl, at1, h1 _ rfl⟩
    · exact ⟨aS, _, _, rfl, rfl, at2, h1 _ rfl⟩
theorem ok_handof {f aH : Addr} {fd : FuncData} (D : Dn K mg "hand_of" s_handof ["sign"] f fd) (gc_HAND_OF_SIGN : mg "HAND_OF_SIGN" = some (.ref aH)) (wr : Writ K w aH) (says : ∀ z, Says K aH z (match handsOf.lookup z with | some y => .str y | none => .non)) : FnOk P w K mg base CX0 1 f fd ["sign"] spHandOf := by
  refine D.F.ok sc_handof (fun vs H Q E h => ?_) (fun cdv A outer s H vs Q E hr h => ?_)
  · obtain ⟨z, rfl, _⟩ := h
    rfl
  · obtain ⟨z, rfl, q⟩ := h
    exact ⟨_, (pss_one (ps_ret (pe_kget (pe_glob (v := .ref aH) (by rfl) gc_HAND_OF_SIGN rfl) (pv 0) ⟨rfl, rfl, rfl, rfl⟩))), aH, rfl, wr, _, rfl, z, rfl, _, says z, q⟩
end
end K01
namespace K01
open PySem PySem.Spec PyProof.Rows L2 TL HotExc L2H HotLc
local macro_rules | `(tactic| walk_at "rd") => `(tactic| simp only [start1, wipe, isR, isBool, isInt, isStr, isLst, isTup, tAsg, gName, gSub, tVar, tC, tOp, tUn, tTest, tIfS, tRet, tRetN, tDrop, tB, tAnd, tOr, tNot, tAndV, tOrV, tNotV, tIf, tCB, tCons, tNil, tNext, tCall, tBM, tTup, tLst, rI0, rI, rEq, rNe, scal, forR_eq, forR2_eq, forS_eq, forL_eq, lcT_eq, lcRT_eq, lcS_eq, rLenX, rLenS, rListOf, tRevL, rMulS, rRepL, rCatL, tPart, tNoPart, CwR.tReplC, rAllK, rInSg, rNinSg, sgn_inj, rAddS, rInSt, tChain, tM1, tM0, rSplitN, rJoinN, exists_eq, rIntI, rIntB, rIntS, rStrI, rAbs, rOrd, rMin, rMax, rIxL, rIxX, rSetL, rAppend, rIxS, rSlS, rSlL, tSl, List.map_cons, List.map_nil, List.replicate_succ, List.replicate_zero, List.length_cons, List.length_nil, Nat.reduceSub, Nat.reduceAdd, Nat.zero_add, Nat.sub_self, List.getElem?_cons_zero, List.getElem?_cons_succ, List.set_cons_zero, List.set_cons_succ, List.append_nil, List.nil_append, List.cons_append, Option.some.injEq, not_true_eq_false, reduceCtorEq, exists_eq_left', exists_eq_left, exists_eq', exists_and_left, exists_and_right, V.int.injEq, V.str.injEq, V.bl.injEq, V.ref.injEq, List.cons.injEq, and_true, true_and, and_assoc, decide_eq_true_eq, Bool.not_eq_true', decide_eq_false_iff_not, ite_true, ite_false, if_true, if_false, Bool.not_true, Bool.not_false, Bool.false_eq_true, eq_self_iff_true, reduceIte, ne_eq, Int.reduceEq, not_false_eq_true])
local macro_rules | `(tactic| walk_at "rt") => `(tactic| try walk_at "rd")
local macro_rules | `(tactic| walk_at "st") => `(tactic| (walk_at "rt"; refine r_seq ?_; walk_at "rt"))
local macro_rules | `(tactic| walk_at "hp") => `(tactic| first | assumption | exact upd_same | (rw [upd_ne (by assumption)]; walk_at "hp"))
local macro_rules | `(tactic| walk_at "ex1") => `(tactic| ((with_reducible refine Exists.intro ?w (And.intro ?hx ?_)); (case hx => first | exact sq_of (by walk_at "hp") | exact .inl (sq_of (by walk_at "hp")) | exact rfl | (show _ = some (HO.lst _); walk_at "hp"))))
local macro_rules | `(tactic| walk_at "ex") => `(tactic| repeat (first | walk_at "ex1" | walk_at "rd"))
abbrev s_kinds : Stmt := topS 68
theorem sc_kinds : FnScope ["error", "names", "flags", "k"] ["error"] (defScope s_kinds) := ⟨rfl, rfl, rfl, by decide +kernel, rfl, by decide +kernel, by decide +kernel⟩
def excs : List String := ["TworoomsError", "BadNumber", "NoHand", "BadName", "TooMany", "NoEntry", "NoPlace", "SelfTie", "Repeated", "BadSigns", "BadText", "BadTree", "BadMap", "NotRight", "NoStone", "Stands", "Falls", "GameOver", "Occupied", "SelfTaking", "ComesBack", "BadDeed", "NothingDone", "BadRow"]
def flg (y x : String) : Bool := x == "ValueError" || (x == "TworoomsError" || x == y)
/-- what is known of the class x, asked of an instance of the class at D, whose name is y -/
def Kn (K : PySem.W.Frag) (mg : Str → Option Value) (D : Addr) (y x : String) : Prop := ∃ a, mg (Str.ofString x) = some (.ref a) ∧ PySem.W.kitOne K (.ref D) (.ref a) = some (flg y x)
def told (y : String) : List String := ("ValueError" :: excs).filter (flg y)
def spKinds (K : PySem.W.Frag) (D : Addr) (y : String) : Addr × Obj → Sp := fun p vs H Q _ => vs = [.ref p.1] ∧ ∃ dx fs, H dx = some (.xd fs) ∧ Zc (.ref D) (some dx) p.2 ∧ (∃ us, p.2.data = .fields us) ∧
  ∀ l H', (∀ b o, H b = some o → H' b = some o) → H' l = some (.lst ((told y).map fun x => V.str (Str.ofString x))) → Q (.ref l) H'
theorem flag_step {H Hn : Hp} {p1 p2 : Addr} {ns fl gl : List V} {G : Addr → Hp → Prop} (k : ∀ b o, H b = some o → Hn b = some o) (hn : Hn p1 = some (.lst ns)) (hf : Hn p2 = some (.lst fl)) (sz : fl.length + gl.length ≤ 1000)
    (q : ∀ b H', (∀ c o, H c = some o → H' c = some o) → H' p1 = some (.lst ns) → H' b = some (.lst (fl ++ gl)) → G b H') :
    gl.length ≤ sizeLine ∧ ∀ a, Hn a = none → ∃ xs, L2.upd Hn a (.lst gl) p2 = some (.lst xs) ∧ ∃ zs, L2.upd Hn a (.lst gl) a = some (.lst zs) ∧ xs.length + zs.length ≤ sizeLine ∧ ∀ b, L2.upd Hn a (.lst gl) b = none → G b (L2.upd (L2.upd Hn a (.lst gl)) b (.lst (xs ++ zs))) := by
  refine ⟨line_of (by omega), fun a na => ⟨fl, (upd_ne (kp_ne hf na)).trans hf, gl, upd_same, line_of (by omega), fun b nb => ?_⟩⟩
  exact q b _ (fun c o e => But0.new nb c o (But0.new na c o (k c o e))) (But0.new nb _ _ (But0.new na _ _ hn)) upd_same
theorem r_seqT {t u : TS} {D : Ends} {σ : L2.St} {H : Hp} (h : ∀ T : L2.St → Hp → Prop, (∀ σ' H', u D σ' H' → T σ' H') → t { D with nx := T } σ H) : tSeq t u D σ H := h (u D) fun _ _ h => h
theorem split_names : Txt.split (Str.ofString "ValueError TworoomsError BadNumber NoHand BadName TooMany NoEntry NoPlace SelfTie Repeated BadSigns" ++ Str.ofString " BadText BadTree BadMap NotRight NoStone Stands Falls GameOver Occupied SelfTaking ComesBack" ++ Str.ofString " BadDeed NothingDone BadRow") (Str.ofString " ") = ("ValueError" :: excs).map Str.ofString := by decide +kernel
section
variable {P : Program} {w : World} {K : PySem.W.Frag} {mg : Str → Option Value} {base : Heap}
theorem r_isP {D a c : Addr} {d : Option Addr} {b : Bool} {H : Hp} {Q : VK} (hk : PySem.W.kitOne K (.ref D) (.ref c) = some b) (hd : ∀ dx, d = some dx → ∃ fs, H dx = some (.xd fs)) (q : Q (.bl b) H) : rIsP K D a d [.ref a, .ref c] H Q :=
  ⟨_, rfl, .ref c, fun u r => r, b, hk, hd, q⟩
theorem r_isV {D a : Addr} {d : Option Addr} {b : Bool} {H : Hp} {Q : VK} (hk : PySem.W.kitOne K (.ref D) (.type "ValueError") = some b) (hd : ∀ dx, d = some dx → ∃ fs, H dx = some (.xd fs)) (q : Q (.bl b) H) : rIsP K D a d [.ref a, .ty "ValueError"] H Q :=
  ⟨_, rfl, .type "ValueError", fun u r => r, b, hk, hd, q⟩
theorem hot_of {X : Cx} {p : Addr × Obj} (h : Hot1 X.A p) (hp : p ∈ X.pn) : HotC X := ⟨p, h, hp⟩
theorem fin_kinds {H H10 : Hp} {p1 p10 p11 pe : Addr} {y : String} {Q : VK} (k10 : ∀ b o, H b = some o → H10 b = some o) (h10 : H10 p1 = some (.lst ((("ValueError" :: excs).map Str.ofString).map V.str)))
    (f10 : H10 p10 = some (.lst (("ValueError" :: excs).map fun x => V.bl (flg y x)))) (n11 : H10 p11 = none)
    (q : ∀ l H', (∀ b o, H b = some o → H' b = some o) → H' l = some (.lst ((told y).map fun x => V.str (Str.ofString x))) → Q (.ref l) H') :
    LcT (Itr 0 (((((("ValueError" :: excs).map Str.ofString).map V.str).length : Nat) : Int)).toNat) (gName 3) (tB (tOp (rIxL K) (tVar 2) (tVar 3))) (tOp (rIxL K) (tVar 1) (tVar 3)) [3] [some (.ref pe), some (.ref p1), some (.ref p10), none] H10 p11 (Q (.ref p11)) := by
  generalize hall : ("ValueError" :: excs) = all at h10 f10 ⊢
  have len : all.length = 25 := by rw [← hall]; decide
  have e25 : ((((all.map Str.ofString).map V.str).length : Nat) : Int).toNat = 25 := by rw [List.length_map, List.length_map, len]; rfl
  rw [e25]
  refine r_lcRT (fun i H' => H' p1 = some (.lst ((all.map Str.ofString).map V.str)) ∧ H' p10 = some (.lst (all.map fun x => V.bl (flg y x))) ∧ H' p11 = some (.lst (((all.take i).filter (flg y)).map fun x => V.str (Str.ofString x))) ∧ ∀ b o, H b = some o → H' b = some o) (fun x => rfl)
    ⟨But0.new n11 _ _ h10, But0.new n11 _ _ f10, upd_same, fun b o e => But0.new n11 b o (k10 b o e)⟩ ?_ ?_
  · rintro i H' hi ⟨a1, a2, a3, kp⟩ N M kN kM
    obtain ⟨x, hx⟩ : ∃ x, all[i]? = some x := ⟨_, List.getElem?_eq_getElem (by omega)⟩
    have x1 : atI ((all.map Str.ofString).map V.str) (0 + (i : Int)) = some (.str (Str.ofString x)) := by
      rw [Int.zero_add]
      exact atI_nat (by rw [List.getElem?_map, List.getElem?_map, hx]; rfl)
    have x2 : atI (all.map fun x => V.bl (flg y x)) (0 + (i : Int)) = some (.bl (flg y x)) := by
      rw [Int.zero_add]
      exact atI_nat (by rw [List.getElem?_map, hx]; rfl)
    have lf : ((all.take i).filter (flg y)).length ≤ i := Nat.le_trans (List.length_filter_le _ _) (by rw [List.length_take]; omega)
    walk_at "rd"
    refine ⟨_, sq_of a2, _, x2, _, rfl, ite2 (fun e => ⟨_, sq_of a1, _, x1, ?_⟩) (fun e => kM _ ⟨a1, a2, ?_, kp⟩)⟩
    · refine kN _ _ _ a3 (size_ok (by rw [List.length_map]; omega)) ⟨But0.put' a1 (fun z => ?_), But0.put' a2 (fun z => ?_), ?_, fun b o z => ?_⟩
      · rw [z, n11] at h10
        cases h10
      · rw [z, n11] at f10
        cases f10
      · rw [upd_same, List.take_succ, hx, List.filter_append, List.map_append]
        simp only [Option.toList_some, List.filter_cons, e, if_true, List.filter_nil, List.map_cons, List.map_nil]
      · have nb : b ≠ p11 := fun z' => by
          have z2 := k10 b o z
          rw [z', n11] at z2
          cases z2
        rw [upd_ne nb]
        exact kp b o z
    · have e : flg y x = false := by simpa using e
      rw [a3, List.take_succ, hx, List.filter_append]
      simp only [Option.toList_some, List.filter_cons, e, Bool.false_eq_true, if_false, List.filter_nil, List.append_nil]
  · rintro H' ⟨a1, a2, a3, kp⟩
    rw [← len, List.take_length] at a3
    refine q _ _ kp ?_
    unfold told
    rw [hall]
    exact a3
theorem ok_kinds {D f : Addr} {fd : FuncData} {y : String} (B : Bi mg) (B_ValueError : mg "ValueError" = none) (Df : Dn K mg "_law_kinds" s_kinds ["error"] f fd) (XC : ExcC K D) (kn : ∀ x ∈ excs, Kn K mg D y x) (kv : PySem.W.kitOne K (.ref D) (.type "ValueError") = some (flg y "ValueError")) :
    FnE P w K mg base CX0 1 f fd ["error"] (spKinds K D y) := by
  refine FnE.of Df.F sc_kinds (fun p vs H Q E h => ?_) (fun p cdv A outer s H vs Q E hot hr h => ?_)
  · obtain ⟨rfl, _⟩ := h
    rfl
  · obtain ⟨rfl, dx, fs, hdx, hz, hf, q⟩ := h
    obtain ⟨c_TworoomsError, gc_TworoomsError, k_TworoomsError⟩ := kn "TworoomsError" (by decide)
    obtain ⟨c_BadNumber, gc_BadNumber, k_BadNumber⟩ := kn "BadNumber" (by decide)
    obtain ⟨c_NoHand, gc_NoHand, k_NoHand⟩ := kn "NoHand" (by decide)
    obtain ⟨c_BadName, gc_BadName, k_BadName⟩ := kn "BadName" (by decide)
    obtain ⟨c_TooMany, gc_TooMany, k_TooMany⟩ := kn "TooMany" (by decide)
    obtain ⟨c_NoEntry, gc_NoEntry, k_NoEntry⟩ := kn "NoEntry" (by decide)
    obtain ⟨c_NoPlace, gc_NoPlace, k_NoPlace⟩ := kn "NoPlace" (by decide)
    obtain ⟨c_SelfTie, gc_SelfTie, k_SelfTie⟩ := kn "SelfTie" (by decide)
    obtain ⟨c_Repeated, gc_Repeated, k_Repeated⟩ := kn "Repeated" (by decide)
    obtain ⟨c_BadSigns, gc_BadSigns, k_BadSigns⟩ := kn "BadSigns" (by decide)
    obtain ⟨c_BadText, gc_BadText, k_BadText⟩ := kn "BadText" (by decide)
    obtain ⟨c_BadTree, gc_BadTree, k_BadTree⟩ := kn "BadTree" (by decide)
    obtain ⟨c_BadMap, gc_BadMap, k_BadMap⟩ := kn "BadMap" (by decide)
    obtain ⟨c_NotRight, gc_NotRight, k_NotRight⟩ := kn "NotRight" (by decide)
    obtain ⟨c_NoStone, gc_NoStone, k_NoStone⟩ := kn "NoStone" (by decide)
    obtain ⟨c_Stands, gc_Stands, k_Stands⟩ := kn "Stands" (by decide)
    obtain ⟨c_Falls, gc_Falls, k_Falls⟩ := kn "Falls" (by decide)
    obtain ⟨c_GameOver, gc_GameOver, k_GameOver⟩ := kn "GameOver" (by decide)
    obtain ⟨c_Occupied, gc_Occupied, k_Occupied⟩ := kn "Occupied" (by decide)
    obtain ⟨c_SelfTaking, gc_SelfTaking, k_SelfTaking⟩ := kn "SelfTaking" (by decide)
    obtain ⟨c_ComesBack, gc_ComesBack, k_ComesBack⟩ := kn "ComesBack" (by decide)
    obtain ⟨c_BadDeed, gc_BadDeed, k_BadDeed⟩ := kn "BadDeed" (by decide)
    obtain ⟨c_NothingDone, gc_NothingDone, k_NothingDone⟩ := kn "NothingDone" (by decide)
    obtain ⟨c_BadRow, gc_BadRow, k_BadRow⟩ := kn "BadRow" (by decide)
    have hin : (p.1, p.2) ∈ (cxH CX0 P w K mg base ["error", "names", "flags", "k"] "_law_kinds" (defScope s_kinds) f cdv A outer s H E p).pn := List.mem_singleton.mpr rfl
    refine ⟨_, (pss_cons (ps_set (i := 1) sc_kinds.nd rfl (.inr rfl) pe_str)
      (pss_cons (ps_set (i := 1) sc_kinds.nd rfl (.inr rfl) (pe_op op_addS (pv 1) pe_str))
      (pss_cons (ps_set (i := 1) sc_kinds.nd rfl (.inr rfl) (pe_m1 PySem.F.slot_str_split PySem.F.type_str_split mt_splitN (pe_op op_addS (pv 1) pe_str) pe_str))
      (pss_cons (ps_set (i := 2) sc_kinds.nd rfl (.inr rfl) (pe_lst (pa_cons (pe_callB (call_isP XC hin hz hf) (by rfl) B.isinstance (by decide +kernel) (pa_cons (pv 0) (pa_cons (pe_bltn (v := .ty "ValueError") (by rfl) B_ValueError (by decide +kernel) rfl) pa_nil))) (pa_cons (pe_callB (call_isP XC hin hz hf) (by rfl) B.isinstance (by decide +kernel) (pa_cons (pv 0) (pa_cons (pe_glob (v := .ref c_TworoomsError) (by rfl) gc_TworoomsError rfl) pa_nil))) (pa_cons (pe_callB (call_isP XC hin hz hf) (by rfl) B.isinstance (by decide +kernel) (pa_cons (pv 0) (pa_cons (pe_glob (v := .ref c_BadNumber) (by rfl) gc_BadNumber rfl) pa_nil))) pa_nil)))))
      (pss_cons (ps_set (i := 2) sc_kinds.nd rfl (.inr rfl) (pe_op op_catL (pv 2) (pe_lst (pa_cons (pe_callB (call_isP XC hin hz hf) (by rfl) B.isinstance (by decide +kernel) (pa_cons (pv 0) (pa_cons (pe_glob (v := .ref c_NoHand) (by rfl) gc_NoHand rfl) pa_nil))) (pa_cons (pe_callB (call_isP XC hin hz hf) (by rfl) B.isinstance (by decide +kernel) (pa_cons (pv 0) (pa_cons (pe_glob (v := .ref c_BadName) (by rfl) gc_BadName rfl) pa_nil))) (pa_cons (pe_callB (call_isP XC hin hz hf) (by rfl) B.isinstance (by decide +kernel) (pa_cons (pv 0) (pa_cons (pe_glob (v := .ref c_TooMany) (by rfl) gc_TooMany rfl) pa_nil))) pa_nil))))))
      (pss_cons (ps_set (i := 2) sc_kinds.nd rfl (.inr rfl) (pe_op op_catL (pv 2) (pe_lst (pa_cons (pe_callB (call_isP XC hin hz hf) (by rfl) B.isinstance (by decide +kernel) (pa_cons (pv 0) (pa_cons (pe_glob (v := .ref c_NoEntry) (by rfl) gc_NoEntry rfl) pa_nil))) (pa_cons (pe_callB (call_isP XC hin hz hf) (by rfl) B.isinstance (by decide +kernel) (pa_cons (pv 0) (pa_cons (pe_glob (v := .ref c_NoPlace) (by rfl) gc_NoPlace rfl) pa_nil))) (pa_cons (pe_callB (call_isP XC hin hz hf) (by rfl) B.isinstance (by decide +kernel) (pa_cons (pv 0) (pa_cons (pe_glob (v := .ref c_SelfTie) (by rfl) gc_SelfTie rfl) pa_nil))) pa_nil))))))
      (pss_cons (ps_set (i := 2) sc_kinds.nd rfl (.inr rfl) (pe_op op_catL (pv 2) (pe_lst (pa_cons (pe_callB (call_isP XC hin hz hf) (by rfl) B.isinstance (by decide +kernel) (pa_cons (pv 0) (pa_cons (pe_glob (v := .ref c_Repeated) (by rfl) gc_Repeated rfl) pa_nil))) (pa_cons (pe_callB (call_isP XC hin hz hf) (by rfl) B.isinstance (by decide +kernel) (pa_cons (pv 0) (pa_cons (pe_glob (v := .ref c_BadSigns) (by rfl) gc_BadSigns rfl) pa_nil))) (pa_cons (pe_callB (call_isP XC hin hz hf) (by rfl) B.isinstance (by decide +kernel) (pa_cons (pv 0) (pa_cons (pe_glob (v := .ref c_BadText) (by rfl) gc_BadText rfl) pa_nil))) pa_nil))))))
      (pss_cons (ps_set (i := 2) sc_kinds.nd rfl (.inr rfl) (pe_op op_catL (pv 2) (pe_lst (pa_cons (pe_callB (call_isP XC hin hz hf) (by rfl) B.isinstance (by decide +kernel) (pa_cons (pv 0) (pa_cons (pe_glob (v := .ref c_BadTree) (by rfl) gc_BadTree rfl) pa_nil))) (pa_cons (pe_callB (call_isP XC hin hz hf) (by rfl) B.isinstance (by decide +kernel) (pa_cons (pv 0) (pa_cons (pe_glob (v := .ref c_BadMap) (by rfl) gc_BadMap rfl) pa_nil))) (pa_cons (pe_callB (call_isP XC hin hz hf) (by rfl) B.isinstance (by decide +kernel) (pa_cons (pv 0) (pa_cons (pe_glob (v := .ref c_NotRight) (by rfl) gc_NotRight rfl) pa_nil))) pa_nil))))))
      (pss_cons (ps_set (i := 2) sc_kinds.nd rfl (.inr rfl) (pe_op op_catL (pv 2) (pe_lst (pa_cons (pe_callB (call_isP XC hin hz hf) (by rfl) B.isinstance (by decide +kernel) (pa_cons (pv 0) (pa_cons (pe_glob (v := .ref c_NoStone) (by rfl) gc_NoStone rfl) pa_nil))) (pa_cons (pe_callB (call_isP XC hin hz hf) (by rfl) B.isinstance (by decide +kernel) (pa_cons (pv 0) (pa_cons (pe_glob (v := .ref c_Stands) (by rfl) gc_Stands rfl) pa_nil))) (pa_cons (pe_callB (call_isP XC hin hz hf) (by rfl) B.isinstance (by decide +kernel) (pa_cons (pv 0) (pa_cons (pe_glob (v := .ref c_Falls) (by rfl) gc_Falls rfl) pa_nil))) pa_nil))))))
      (pss_cons (ps_set (i := 2) sc_kinds.nd rfl (.inr rfl) (pe_op op_catL (pv 2) (pe_lst (pa_cons (pe_callB (call_isP XC hin hz hf) (by rfl) B.isinstance (by decide +kernel) (pa_cons (pv 0) (pa_cons (pe_glob (v := .ref c_GameOver) (by rfl) gc_GameOver rfl) pa_nil))) (pa_cons (pe_callB (call_isP XC hin hz hf) (by rfl) B.isinstance (by decide +kernel) (pa_cons (pv 0) (pa_cons (pe_glob (v := .ref c_Occupied) (by rfl) gc_Occupied rfl) pa_nil))) (pa_cons (pe_callB (call_isP XC hin hz hf) (by rfl) B.isinstance (by decide +kernel) (pa_cons (pv 0) (pa_cons (pe_glob (v := .ref c_SelfTaking) (by rfl) gc_SelfTaking rfl) pa_nil))) pa_nil))))))
      (pss_cons (ps_set (i := 2) sc_kinds.nd rfl (.inr rfl) (pe_op op_catL (pv 2) (pe_lst (pa_cons (pe_callB (call_isP XC hin hz hf) (by rfl) B.isinstance (by decide +kernel) (pa_cons (pv 0) (pa_cons (pe_glob (v := .ref c_ComesBack) (by rfl) gc_ComesBack rfl) pa_nil))) (pa_cons (pe_callB (call_isP XC hin hz hf) (by rfl) B.isinstance (by decide +kernel) (pa_cons (pv 0) (pa_cons (pe_glob (v := .ref c_BadDeed) (by rfl) gc_BadDeed rfl) pa_nil))) (pa_cons (pe_callB (call_isP XC hin hz hf) (by rfl) B.isinstance (by decide +kernel) (pa_cons (pv 0) (pa_cons (pe_glob (v := .ref c_NothingDone) (by rfl) gc_NothingDone rfl) pa_nil))) pa_nil))))))
      (pss_cons (ps_set (i := 2) sc_kinds.nd rfl (.inr rfl) (pe_op op_catL (pv 2) (pe_lst (pa_cons (pe_callB (call_isP XC hin hz hf) (by rfl) B.isinstance (by decide +kernel) (pa_cons (pv 0) (pa_cons (pe_glob (v := .ref c_BadRow) (by rfl) gc_BadRow rfl) pa_nil))) pa_nil))))
      (pss_one (ps_ret (pe_lcH (own := [("k", 3)]) (g := gName 3) (hot_of hot hin) sc_kinds.nd (pi_range1H (by rfl) B.range (pa_cons (pe_callB (call_lenXK (K := K)) (by rfl) B.len PySem.boot_len (pa_cons (pv 1) pa_nil)) pa_nil)) (blkOk_by (own := [("k", 3)]) (N := ["error", "names", "flags", "k"]) (sc := defScope s_kinds) (by decide +kernel)) (fun p hot => ⟨fun _ _ _ _ _ => pg_name (i := 3) sc_kinds.nd rfl (Or.inl rfl), fun _ _ _ _ _ => (pts_one (pt_val (pe_ix (ix_listK (K := K)) (pv 2) (pv 3) (fun _ _ => rfl)))), fun _ _ _ _ _ => (pe_ix (ix_listK (K := K)) (pv 1) (pv 3) (fun _ _ => rfl))⟩)))))))))))))))), ?_⟩
    generalize hX : cxH CX0 P w K mg base ["error", "names", "flags", "k"] "_law_kinds" (defScope s_kinds) f cdv A outer s H E p = X at hin ⊢
    have hK : X.K = K := by rw [← hX]; rfl
    rw [hK]
    walk_at "st"
    walk_at "st"
    refine ⟨by decide +kernel, ?_⟩
    walk_at "st"
    refine ⟨by decide +kernel, by decide +kernel, by decide +kernel, fun p1 n1 => ?_⟩
    rw [split_names]
    have hd : ∀ {H' : Hp}, (∀ b o, H b = some o → H' b = some o) → ∀ d, some dx = some d → ∃ fs, H' d = some (.xd fs) := fun k d e => by
      cases e
      exact ⟨fs, k _ _ hdx⟩
    obtain ⟨H1, e1⟩ : ∃ z, z = L2.upd H p1 (.lst ((("ValueError" :: excs).map Str.ofString).map V.str)) := ⟨_, rfl⟩
    have k1 : ∀ b o, H b = some o → H1 b = some o := e1 ▸ But0.new n1
    have h1 : H1 p1 = some (.lst ((("ValueError" :: excs).map Str.ofString).map V.str)) := e1 ▸ upd_same
    rw [← e1]
    walk_at "st"
    refine r_isV kv (hd k1) (r_isP k_TworoomsError (hd k1) (r_isP k_BadNumber (hd k1) ⟨by decide, fun p2 n2 => ?_⟩))
    obtain ⟨H2, e2⟩ : ∃ z, z = L2.upd H1 p2 (.lst [.bl (flg y "ValueError"), .bl (flg y "TworoomsError"), .bl (flg y "BadNumber")]) := ⟨_, rfl⟩
    have k2 : ∀ b o, H b = some o → H2 b = some o := e2 ▸ fun b o z => But0.new n2 b o (k1 b o z)
    have h2 : H2 p1 = some (.lst ((("ValueError" :: excs).map Str.ofString).map V.str)) := e2 ▸ But0.new n2 _ _ h1
    have f2 : H2 p2 = some (.lst [.bl (flg y "ValueError"), .bl (flg y "TworoomsError"), .bl (flg y "BadNumber")]) := e2 ▸ upd_same
    rw [← e2]
    walk_at "st"
    refine r_isP k_NoHand (hd k2) (r_isP k_BadName (hd k2) (r_isP k_TooMany (hd k2) ?_))
    refine flag_step (gl := [.bl (flg y "NoHand"), .bl (flg y "BadName"), .bl (flg y "TooMany")]) k2 h2 f2 (Nat.le_of_ble_eq_true rfl) fun p3 H3 k3 h3 f3 => ?_
    walk_at "st"
    refine r_isP k_NoEntry (hd k3) (r_isP k_NoPlace (hd k3) (r_isP k_SelfTie (hd k3) ?_))
    refine flag_step (gl := [.bl (flg y "NoEntry"), .bl (flg y "NoPlace"), .bl (flg y "SelfTie")]) k3 h3 f3 (Nat.le_of_ble_eq_true rfl) fun p4 H4 k4 h4 f4 => ?_
    walk_at "st"
    refine r_isP k_Repeated (hd k4) (r_isP k_BadSigns (hd k4) (r_isP k_BadText (hd k4) ?_))
    refine flag_step (gl := [.bl (flg y "Repeated"), .bl (flg y "BadSigns"), .bl (flg y "BadText")]) k4 h4 f4 (Nat.le_of_ble_eq_true rfl) fun p5 H5 k5 h5 f5 => ?_
    walk_at "st"
    refine r_isP k_BadTree (hd k5) (r_isP k_BadMap (hd k5) (r_isP k_NotRight (hd k5) ?_))
    refine flag_step (gl := [.bl (flg y "BadTree"), .bl (flg y "BadMap"), .bl (flg y "NotRight")]) k5 h5 f5 (Nat.le_of_ble_eq_true rfl) fun p6 H6 k6 h6 f6 => ?_
    walk_at "st"
    refine r_isP k_NoStone (hd k6) (r_isP k_Stands (hd k6) (r_isP k_Falls (hd k6) ?_))
    refine flag_step (gl := [.bl (flg y "NoStone"), .bl (flg y "Stands"), .bl (flg y "Falls")]) k6 h6 f6 (Nat.le_of_ble_eq_true rfl) fun p7 H7 k7 h7 f7 => ?_
    walk_at "st"
    refine r_isP k_GameOver (hd k7) (r_isP k_Occupied (hd k7) (r_isP k_SelfTaking (hd k7) ?_))
    refine flag_step (gl := [.bl (flg y "GameOver"), .bl (flg y "Occupied"), .bl (flg y "SelfTaking")]) k7 h7 f7 (Nat.le_of_ble_eq_true rfl) fun p8 H8 k8 h8 f8 => ?_
    walk_at "st"
    refine r_isP k_ComesBack (hd k8) (r_isP k_BadDeed (hd k8) (r_isP k_NothingDone (hd k8) ?_))
    refine flag_step (gl := [.bl (flg y "ComesBack"), .bl (flg y "BadDeed"), .bl (flg y "NothingDone")]) k8 h8 f8 (Nat.le_of_ble_eq_true rfl) fun p9 H9 k9 h9 f9 => ?_
    walk_at "rt"
    refine r_seqT fun T hT => ?_
    walk_at "rt"
    refine r_isP k_BadRow (hd k9) ?_
    refine flag_step (gl := [.bl (flg y "BadRow")]) k9 h9 f9 (Nat.le_of_ble_eq_true rfl) fun p10 H10 k10 h10 f10 => hT _ _ ?_
    have f10 : H10 p10 = some (.lst (("ValueError" :: excs).map fun x => V.bl (flg y x))) := f10
    walk_at "rt"
    refine ⟨_, .inl (sq_of h10), by simp only [List.length_map]; decide, by simp only [List.length_map]; decide, fun p11 n11 => ?_⟩
    refine fin_kinds k10 h10 f10 n11 q
end
end K01
namespace K01
open PySem PySem.Spec PyProof.Rows L2 TL HotExc L2H HotLc
local macro_rules | `(tactic| walk_at "rd") => `(tactic| simp only [start1, wipe, isR, isBool, isInt, isStr, isLst, isTup, tAsg, gName, gSub, tVar, tC, tOp, tUn, tTest, tIfS, tRet, tRetN, tDrop, tB, tAnd, tOr, tNot, tAndV, tOrV, tNotV, tIf, tCB, tCons, tNil, tNext, tCall, tBM, tTup, tLst, rI0, rI, rEq, rNe, scal, forR_eq, forR2_eq, forS_eq, forL_eq, lcT_eq, lcRT_eq, lcS_eq, rLenX, rLenS, rListOf, tRevL, rMulS, rRepL, rCatL, tPart, tNoPart, CwR.tReplC, rAllK, rInSg, rNinSg, sgn_inj, rAddS, rInSt, tChain, tM1, tM0, rSplitN, rJoinN, exists_eq, rIntI, rIntB, rIntS, rStrI, rAbs, rOrd, rMin, rMax, rIxL, rIxX, rSetL, rAppend, rIxS, rSlS, rSlL, tSl, List.map_cons, List.map_nil, List.replicate_succ, List.replicate_zero, List.length_cons, List.length_nil, Nat.reduceSub, Nat.reduceAdd, Nat.zero_add, Nat.sub_self, List.getElem?_cons_zero, List.getElem?_cons_succ, List.set_cons_zero, List.set_cons_succ, List.append_nil, List.nil_append, List.cons_append, Option.some.injEq, not_true_eq_false, reduceCtorEq, exists_eq_left', exists_eq_left, exists_eq', exists_and_left, exists_and_right, V.int.injEq, V.str.injEq, V.bl.injEq, V.ref.injEq, List.cons.injEq, and_true, true_and, and_assoc, decide_eq_true_eq, Bool.not_eq_true', decide_eq_false_iff_not, ite_true, ite_false, if_true, if_false, Bool.not_true, Bool.not_false, Bool.false_eq_true, eq_self_iff_true, reduceIte, ne_eq, Int.reduceEq, not_false_eq_true])
local macro_rules | `(tactic| walk_at "rt") => `(tactic| try walk_at "rd")
local macro_rules | `(tactic| walk_at "st") => `(tactic| (walk_at "rt"; refine r_seq ?_; walk_at "rt"))
local macro_rules | `(tactic| walk_at "hp") => `(tactic| first | assumption | exact upd_same | (rw [upd_ne (by assumption)]; walk_at "hp"))
local macro_rules | `(tactic| walk_at "ex1") => `(tactic| ((with_reducible refine Exists.intro ?w (And.intro ?hx ?_)); (case hx => first | exact sq_of (by walk_at "hp") | exact .inl (sq_of (by walk_at "hp")) | exact rfl | (show _ = some (HO.lst _); walk_at "hp"))))
local macro_rules | `(tactic| walk_at "ex") => `(tactic| repeat (first | walk_at "ex1" | walk_at "rd"))
abbrev s_toldother : Stmt := topS 73
theorem sc_toldother : FnScope ["word", "told", "e"] ["word"] (defScope s_toldother) := ⟨rfl, rfl, rfl, by decide +kernel, rfl, by decide +kernel, by decide +kernel⟩
abbrev s_toldsign : Stmt := topS 74
theorem sc_toldsign : FnScope ["word", "told", "e"] ["word"] (defScope s_toldsign) := ⟨rfl, rfl, rfl, by decide +kernel, rfl, by decide +kernel, by decide +kernel⟩
theorem takesN0 {X : Cx} : L2N.Takes X (fun _ _ _ _ => False) := fun _ _ x => by
  obtain ⟨_, _, _, _, _, _, _, _, _, _, _, _, _, _, _, _, w⟩ := x
  exact w.elim
theorem pe_imp {X : Cx} {e : Expr} {t t' : TE} (h : PE X e t) (k : ∀ σ H Q, t' σ H Q → t σ H Q) : PE X e t' := ⟨fun pins s σ H Q I q => h.run pins s σ H Q I (k _ _ _ q)⟩
/-- kinds(e), e the exception in slot i -/
def tKinds (D : Addr) (y : String) (a : Addr) (cls : Value) (d : Option Addr) (i : Nat) : TE := fun σ H Q => σ[i]? = some (some (.ref a)) ∧ cls = .ref D ∧ ∃ dx fs, d = some dx ∧ H dx = some (.xd fs) ∧
  ∀ l H', (∀ b o, H b = some o → H' b = some o) → H' l = some (.lst ((told y).map fun x => V.str (Str.ofString x))) → Q (.ref l) H'
theorem pe_kinds {X : Cx} {D f : Addr} {fd : FuncData} {y : String} {a : Addr} {oe : Obj} {cls : Value} {d : Option Addr} {pn : List (Addr × Obj)} {q1 q2 pos : Pos} {x : Str} {i : Nat} (F : FnE X.prog X.w X.K X.mg X.base CX0 1 f fd ["error"] (spKinds X.K D y)) (room : Room 1 X.A) (hz : L2N.Zn cls d oe) (hf : ∃ vs, oe.data = .fields vs)
    (hg : Gl X "_law_kinds") (hm : X.mg "_law_kinds" = some (.ref f)) (hk : PySem.W.keepIn X.K (.ref f) = true) (hb : Binds X.K fd ["error"] []) (hv : PE (X.suite a ((a, oe) :: pn)) (.Name x q1) (tVar i)) (hst : starEach [.Name x q1] X.env = [(false, eval (.Name x q1) X.env)] := by rfl) :
    PE (X.suite a ((a, oe) :: pn)) (.Call (.Name "_law_kinds" q2) [.Name x q1] [] pos) (tKinds D y a cls d i) := by
  have hot : Hot1 (X.suite a ((a, oe) :: pn)).A (a, oe) := by
    obtain ⟨us, hu⟩ := hf
    exact ⟨rfl, us, hu, hz.2.2 us hu⟩
  refine pe_imp (pe_callE (X := X.suite a ((a, oe) :: pn)) (E := fun _ _ _ _ => False) F ⟨room.dp, room.un⟩ hot List.mem_cons_self hg hm hk hb (fun σ pins H s e s' I c => False.elim c) (pa_cons hv pa_nil) (by decide) hst rfl) ?_
  rintro σ H Q ⟨h1, h2, dx, fs, h3, h4, q⟩
  exact ⟨_, h1, rfl, dx, fs, h4, by rw [← h2, ← h3]; exact hz.zc, hf, q⟩
def spTold (ps : List (Str × Str)) : Sp := fun vs H Q _ => ∃ z, vs = [.str z] ∧
  (∀ y, ps.lookup z = some y → ∀ t H', (∀ b o, H b = some o → H' b = some o) → H' t = some (.tup [.str (Str.ofString "gave"), .str y]) → Q (.ref t) H') ∧
  (z ∉ hands → ∀ t t2 l H', (∀ b o, H b = some o → H' b = some o) → H' t = some (.tup [.str (Str.ofString "raised"), .ref t2, .ref l]) → H' t2 = some (.tup [.str z]) → H' l = some (.lst ((told "NoHand").map fun x => V.str (Str.ofString x))) → Q (.ref t) H')
section
variable {P : Program} {w : World} {K : PySem.W.Frag} {mg : Str → Option Value} {base : Heap}
theorem ok_toldother {C fI f f_other f_kinds : Addr} {fd fd_other fd_kinds : FuncData} (B : Bi mg) (D : Dn K mg "_law_told_other" s_toldother ["word"] f fd) (D_other : Dn K mg "other_hand" s_otherhand ["hand"] f_other fd_other) (D_kinds : Dn K mg "_law_kinds" s_kinds ["error"] f_kinds fd_kinds)
    (X : Exn K mg "NoHand" C fI) (XF : XfC K C) (no : PySem.W.findIn K (.ref C) "hand" = some none) (me : PySem.W.exmOne K (.ref C) (.ref C) = some true)
    (G_other : FnOk P w K mg base (L2N.CX P w) 4 f_other fd_other ["hand"] (spHand C others)) (G_kinds : FnE P w K mg base CX0 1 f_kinds fd_kinds ["error"] (spKinds K C "NoHand")) : FnOk P w K mg base CX0 5 f fd ["word"] (spTold others) := by
  refine D.F.ok sc_toldother (fun vs H Q E h => ?_) (fun cdv A outer s H vs Q E hr h => ?_)
  · obtain ⟨z, rfl, _⟩ := h
    rfl
  · obtain ⟨z, rfl, h1, h2⟩ := h
    refine ⟨_, (pss_cons (L2N.ps_try_as (i := 2) (tb := fun W => tAsg (tCallS (spHand C others) (WE W) (tCons (tVar 0) tNil)) (gName 1))
        (ts := fun a cls d => tRet (tTup (tCons (tC (.str (Str.ofString "raised"))) (tCons (tTup (tCons (tXf a cls d C "hand" (tVar 2)) tNil)) (tCons (tKinds C "NoHand" a cls d 2) tNil))))) (Wout := fun _ _ _ _ => False) rfl rfl sc_toldother.nd rfl rfl ⟨rfl, by decide, Or.inl X.g⟩ takesN0
        (fun W pn xe tk _ => pss_one (ps_set (i := 1) sc_toldother.nd rfl (Or.inl rfl) (by exact (pe_callS G_other (hr.mono (by omega)) rfl D_other.g D_other.F.kp D_other.b (fun σ => L2N.passAt tk σ) (pa_cons (pv 0) pa_nil)))))
        (fun a oe cls d pn hz hf => pss_one (ps_ret (pe_tup (pa_cons pe_str (pa_cons (pe_tup (pa_cons (pe_xf XF no hz.zc hf (pv 2)) pa_nil)) (pa_cons (pe_kinds G_kinds (hr.mono (by omega)) hz hf (by rfl) D_kinds.g D_kinds.F.kp D_kinds.b (pv 2)) pa_nil)))))))
      (pss_one (ps_ret (pe_tup (pa_cons pe_str (pa_cons (pv 1) pa_nil)))))), ?_⟩
    refine r_seq ?_
    refine ⟨_, rfl, z, rfl, fun y hy => ?_, fun hz d nd => ⟨true, me, fun _ a na => ?_, fun e => Bool.noConfusion e⟩⟩
    · walk_at "rt"
      exact ⟨by decide, fun t nt => h1 y hy t _ (But0.new nt) upd_same⟩
    · walk_at "rt"
      have lk : ([(("hand" : Str), V.str z)] : List (Str × V)).lookup ("hand" : Str) = some (V.str z) := by simp [List.lookup]
      refine ⟨_, rfl, rfl, rfl, d, _, _, rfl, upd_same, lk, by decide, fun p np => ⟨rfl, rfl, d, _, rfl, But0.new np _ _ upd_same, fun l H' kp hl => ⟨by decide, fun t nt => ?_⟩⟩⟩
      exact h2 hz t p l _ (fun b o e => But0.new nt b o (kp b o (But0.new np b o (But0.new nd b o e)))) upd_same (But0.new nt _ _ (kp _ _ upd_same)) (But0.new nt _ _ hl)
theorem ok_toldsign {C fI f f_sign f_kinds : Addr} {fd fd_sign fd_kinds : FuncData} (B : Bi mg) (D : Dn K mg "_law_told_sign" s_toldsign ["word"] f fd) (D_sign : Dn K mg "sign_of" s_signof ["hand"] f_sign fd_sign) (D_kinds : Dn K mg "_law_kinds" s_kinds ["error"] f_kinds fd_kinds)
    (X : Exn K mg "NoHand" C fI) (XF : XfC K C) (no : PySem.W.findIn K (.ref C) "hand" = some none) (me : PySem.W.exmOne K (.ref C) (.ref C) = some true)
    (G_sign : FnOk P w K mg base (L2N.CX P w) 4 f_sign fd_sign ["hand"] (spHand C signs)) (G_kinds : FnE P w K mg base CX0 1 f_kinds fd_kinds ["error"] (spKinds K C "NoHand")) : FnOk P w K mg base CX0 5 f fd ["word"] (spTold signs) := by
  refine D.F.ok sc_toldsign (fun vs H Q E h => ?_) (fun cdv A outer s H vs Q E hr h => ?_)
  · obtain ⟨z, rfl, _⟩ := h
    rfl
  · obtain ⟨z, rfl, h1, h2⟩ := h
    refine ⟨_, (pss_cons (L2N.ps_try_as (i := 2) (tb := fun W => tAsg (tCallS (spHand C signs) (WE W) (tCons (tVar 0) tNil)) (gName 1))
        (ts := fun a cls d => tRet (tTup (tCons (tC (.str (Str.ofString "raised"))) (tCons (tTup (tCons (tXf a cls d C "hand" (tVar 2)) tNil)) (tCons (tKinds C "NoHand" a cls d 2) tNil))))) (Wout := fun _ _ _ _ => False) rfl rfl sc_toldsign.nd rfl rfl ⟨rfl, by decide, Or.inl X.g⟩ takesN0
        (fun W pn xe tk _ => pss_one (ps_set (i := 1) sc_toldsign.nd rfl (Or.inl rfl) (by exact (pe_callS G_sign (hr.mono (by omega)) rfl D_sign.g D_sign.F.kp D_sign.b (fun σ => L2N.passAt tk σ) (pa_cons (pv 0) pa_nil)))))
        (fun a oe cls d pn hz hf => pss_one (ps_ret (pe_tup (pa_cons pe_str (pa_cons (pe_tup (pa_cons (pe_xf XF no hz.zc hf (pv 2)) pa_nil)) (pa_cons (pe_kinds G_kinds (hr.mono (by omega)) hz hf (by rfl) D_kinds.g D_kinds.F.kp D_kinds.b (pv 2)) pa_nil)))))))
      (pss_one (ps_ret (pe_tup (pa_cons pe_str (pa_cons (pv 1) pa_nil)))))), ?_⟩
    refine r_seq ?_
    refine ⟨_, rfl, z, rfl, fun y hy => ?_, fun hz d nd => ⟨true, me, fun _ a na => ?_, fun e => Bool.noConfusion e⟩⟩
    · walk_at "rt"
      exact ⟨by decide, fun t nt => h1 y hy t _ (But0.new nt) upd_same⟩
    · walk_at "rt"
      have lk : ([(("hand" : Str), V.str z)] : List (Str × V)).lookup ("hand" : Str) = some (V.str z) := by simp [List.lookup]
      refine ⟨_, rfl, rfl, rfl, d, _, _, rfl, upd_same, lk, by decide, fun p np => ⟨rfl, rfl, d, _, rfl, But0.new np _ _ upd_same, fun l H' kp hl => ⟨by decide, fun t nt => ?_⟩⟩⟩
      exact h2 hz t p l _ (fun b o e => But0.new nt b o (kp b o (But0.new np b o (But0.new nd b o e)))) upd_same (But0.new nt _ _ (kp _ _ upd_same)) (But0.new nt _ _ hl)
end
end K01
/-! f(e, .., k = v, ..) in a try's body: what may come out depends on the slots -/
namespace HotExc
open PySem PySem.Spec PyProof.Rows L2
def tCallKS (sp : Sp) (gV : List V → List V → List V) (E : L2.St → XK) (t tk : TA) : TE := fun σ H Q => t σ H fun vs H1 => tk σ H1 fun zs H2 => sp (gV vs zs) H2 Q (E σ)
theorem pe_callKS {X : Cx} {CX : CXT} {k : Nat} {f : Addr} {fd : FuncData} {ps ks : List Str} {sp : Sp} {E : L2.St → XK} {x : Str} {p pos : Pos} {e : Expr} {es : List Expr} {kws : List Keyword} {t tk : TA} {g : List Value → List Value → List Value} {gV : List V → List V → List V}
    (F : FnOk X.prog X.w X.K X.mg X.base CX k f fd ps sp) (room : Room k X.A) (hg : Gl X x) (hm : X.mg x = some (.ref f)) (hk : PySem.W.keepIn X.K (.ref f) = true) (hb : KBinds X.K fd ps ks g gV) (hx : ∀ σ, PassesAt CX X σ (E σ))
    (ha : PA X (e :: es) t) (hkw : PK X kws tk) (hall : (backToKw pos (keywordEach kws X.env)).all (·.1.isSome) = true := by rfl) (hks : (backToKw pos (keywordEach kws X.env)).filterMap (·.1) = ks := by rfl)
    (hdb : (x == ("__debug__" : Str)) = false := by decide) (he : starEach (e :: es) X.env = (false, eval e X.env) :: starEach es X.env := by rfl)
    (hpl : ((backTo pos (starEach (e :: es) X.env)).any (·.1) || (backToKw pos (keywordEach kws X.env)).any (·.1.isNone)) = false := by rfl) : PE X (.Call (.Name x p) (e :: es) kws pos) (tCallKS sp gV E t tk) := by
  refine ⟨fun pins s σ H Q I want => ?_⟩
  refine wpAny_Call_Name_kw (ld_glob I hg hm ?_ hdb)
  refine PySem.W.callWith_KW (h₀ := X.base) I.ok.mod.kin hk hall (thn (ha.run pos pins s σ H _ I want) fun us s1 got => ?_) hpl he
  obtain ⟨vs, H1, I1, r1, want1⟩ := got
  refine thn (hkw.run pos pins s1 σ H1 _ I1 want1) fun ws s2 got => ?_
  obtain ⟨zs, H2, I2, rz, want2⟩ := got
  refine ⟨I2.kIn, ?_⟩
  rw [hks]
  have r2 := hb.rel r1 rz
  have n : (g us ws).length = ps.length := by
    rw [← r2.length]
    exact F.len _ _ _ _ want2
  refine wpAny_call (codeAny_mono (F.run X.A X.stack s2 H2 ⟨us, ks.zip ws⟩ (g us ws) (gV vs zs) Q (E σ) room I2.env0 (hb.to s2 us ws I2.kIn n) r2 want2) fun r s' out => ?_)
  match r, out with
  | .error e, out => exact hx σ pins H2 s2 e s' I2 out
  | .ok (.ret u), out => exact I2.after out
  | .ok .next, out => exact out.elim
  | .ok .brk, out => exact out.elim
  | .ok .cont, out => exact out.elim
end HotExc
namespace K01
open PySem PySem.Spec PyProof.Rows L2 TL HotExc L2H HotLc
local macro_rules | `(tactic| walk_at "rd") => `(tactic| simp only [start1, wipe, isR, isBool, isInt, isStr, isLst, isTup, tAsg, gName, gSub, tVar, tC, tOp, tUn, tTest, tIfS, tRet, tRetN, tDrop, tB, tAnd, tOr, tNot, tAndV, tOrV, tNotV, tIf, tCB, tCons, tNil, tNext, tCall, tBM, tTup, tLst, rI0, rI, rEq, rNe, scal, forR_eq, forR2_eq, forS_eq, forL_eq, lcT_eq, lcRT_eq, lcS_eq, rLenX, rLenS, rListOf, tRevL, rMulS, rRepL, rCatL, tPart, tNoPart, CwR.tReplC, rAllK, rInSg, rNinSg, sgn_inj, rAddS, rInSt, tChain, tM1, tM0, rSplitN, rJoinN, exists_eq, rIntI, rIntB, rIntS, rStrI, rAbs, rOrd, rMin, rMax, rIxL, rIxX, rSetL, rAppend, rIxS, rSlS, rSlL, tSl, List.map_cons, List.map_nil, List.replicate_succ, List.replicate_zero, List.length_cons, List.length_nil, Nat.reduceSub, Nat.reduceAdd, Nat.zero_add, Nat.sub_self, List.getElem?_cons_zero, List.getElem?_cons_succ, List.set_cons_zero, List.set_cons_succ, List.append_nil, List.nil_append, List.cons_append, Option.some.injEq, not_true_eq_false, reduceCtorEq, exists_eq_left', exists_eq_left, exists_eq', exists_and_left, exists_and_right, V.int.injEq, V.str.injEq, V.bl.injEq, V.ref.injEq, List.cons.injEq, and_true, true_and, and_assoc, decide_eq_true_eq, Bool.not_eq_true', decide_eq_false_iff_not, ite_true, ite_false, if_true, if_false, Bool.not_true, Bool.not_false, Bool.false_eq_true, eq_self_iff_true, reduceIte, ne_eq, Int.reduceEq, not_false_eq_true])
local macro_rules | `(tactic| walk_at "rt") => `(tactic| try walk_at "rd")
local macro_rules | `(tactic| walk_at "st") => `(tactic| (walk_at "rt"; refine r_seq ?_; walk_at "rt"))
local macro_rules | `(tactic| walk_at "hp") => `(tactic| first | assumption | exact upd_same | (rw [upd_ne (by assumption)]; walk_at "hp"))
local macro_rules | `(tactic| walk_at "ex1") => `(tactic| ((with_reducible refine Exists.intro ?w (And.intro ?hx ?_)); (case hx => first | exact sq_of (by walk_at "hp") | exact .inl (sq_of (by walk_at "hp")) | exact rfl | (show _ = some (HO.lst _); walk_at "hp"))))
local macro_rules | `(tactic| walk_at "ex") => `(tactic| repeat (first | walk_at "ex1" | walk_at "rd"))
abbrev s_checknumber : Stmt := topS 51
theorem sc_checknumber : FnScope ["what", "value", "least", "most"] ["what", "value", "least", "most"] (defScope s_checknumber) := ⟨rfl, rfl, rfl, by decide +kernel, rfl, by decide +kernel, by decide +kernel⟩
abbrev s_toldcheck : Stmt := topS 75
theorem sc_toldcheck : FnScope ["word", "thing", "low", "high", "told", "e"] ["word", "thing", "low", "high"] (defScope s_toldcheck) := ⟨rfl, rfl, rfl, by decide +kernel, rfl, by decide +kernel, by decide +kernel⟩
theorem mk2 {C : Addr} {f1 f2 : Str} {y z : V} {H : Hp} {Q : XK} (q : ∀ d, H d = none → Q (.ref C) (some d) (L2.upd H d (.xd [(f2, z), (f1, y)]))) : [y, z].length ≤ 1000 ∧ ∀ a, H a = none → spIni2 C f1 f2 (.ref a :: ([y, z] ++ [])) (L2.upd H a (exo a C none))
    (fun v H2 => v = .non ∧ ∃ (d : Addr) (fs : List (Str × V)), H2 a = some (exo a C (some d)) ∧ H2 d = some (exd d fs) ∧ H d = none ∧ Q (.ref C) (some d) (L2.upd (del H2 a) d (.xd fs))) (fun _ _ _ => False) := by
  refine ⟨Nat.le_of_ble_eq_true rfl, fun a na => ⟨a, y, z, rfl, upd_same, fun dx n ne => ?_⟩⟩
  have n' : H dx = none := (upd_ne ne).symm.trans n
  refine ⟨rfl, dx, _, (upd_ne (Ne.symm ne)).trans upd_same, upd_same, n', ?_⟩
  have e : ∀ (u v w v2 x : HO), L2.upd (del (L2.upd (L2.upd (L2.upd (L2.upd H a u) dx v) a w) dx v2) a) dx x = L2.upd H dx x := fun u v w v2 x => by
    funext b
    by_cases h1 : b = dx
    · rw [h1, upd_same, upd_same]
    · rw [upd_ne h1, upd_ne h1]
      by_cases h2 : b = a
      · rw [h2, del_same, na]
      · rw [del_ne h2, upd_ne h1, upd_ne h2, upd_ne h1, upd_ne h2]
  rw [e]
  exact q dx n'
/-- a number within its bounds -/
def Fits (x : V) (b : Bool) (lo hi : Int) : Prop := b = true ∧ ∃ n : Int, x = .int n ∧ lo ≤ n ∧ n ≤ hi
def spCheckN (C : Addr) : Sp := fun vs H Q E => ∃ wh x b lo hi, vs = [.str wh, x, .int lo, .int hi] ∧ Thing x b ∧ (Fits x b lo hi → Q x H) ∧
  (¬ Fits x b lo hi → ∀ d, H d = none → E (.ref C) (some d) (L2.upd H d (.xd [(("value" : Str), x), (("what" : Str), .str wh)])))
def spToldN : Sp := fun vs H Q _ => ∃ wh x b lo hi, vs = [.str wh, x, .int lo, .int hi] ∧ Thing x b ∧
  (Fits x b lo hi → ∀ t H', (∀ b o, H b = some o → H' b = some o) → H' t = some (.tup [.str (Str.ofString "gave"), x]) → Q (.ref t) H') ∧
  (¬ Fits x b lo hi → ∀ t t2 l H', (∀ b o, H b = some o → H' b = some o) → H' t = some (.tup [.str (Str.ofString "raised"), .ref t2, .ref l]) → H' t2 = some (.tup [.str wh, x]) → H' l = some (.lst ((told "BadNumber").map fun x => V.str (Str.ofString x))) → Q (.ref t) H')
def kwG {α : Type} (us ws : List α) : List α := match us, ws with
  | [a, b], [c, d] => [a, b, c, d]
  | _, _ => []
section
variable {P : Program} {w : World} {K : PySem.W.Frag} {mg : Str → Option Value} {base : Heap}
theorem ok_iBadNumber {C f : Addr} {fd : FuncData} (T : OexC K C) (no1 : PySem.W.findIn K (.ref C) "what" = some none) (no2 : PySem.W.findIn K (.ref C) "value" = some none) (F : Fun K "__init__" "BadNumber.__init__" s_iBadNumber f fd) : FnOk P w K mg base CX0 1 f fd ["self", "what", "value"] (spIni2 C "what" "value") := by
  refine F.ok sc_iBadNumber (fun vs H Q E h => ?_) (fun cdv A outer s H vs Q E hr h => ?_)
  · obtain ⟨a, y, z, rfl, _⟩ := h
    rfl
  · obtain ⟨a, y, z, rfl, ha, q⟩ := h
    refine ⟨_, (pss_cons (ps_ost (pv 0) (pv 1)) (pss_one (ps_ost (pv 0) (pv 2)))), r_seq ?_⟩
    refine ⟨_, rfl, _, rfl, a, C, rfl, T, no1, .inl ⟨ha, fun dx n ne => ?_⟩⟩
    exact ⟨_, rfl, _, rfl, a, C, rfl, T, no2, .inr ⟨dx, _, upd_same, (upd_ne ne).trans upd_same, Nat.le_of_ble_eq_true rfl, q dx n ne⟩⟩
theorem ok_checknumber {C fI f f_isn : Addr} {fdI fd fd_isn : FuncData} (X : Exn K mg "BadNumber" C fI) (bI : Binds K fdI ["self", "what", "value"] []) (GI : FnOk P w K mg base CX0 1 fI fdI ["self", "what", "value"] (spIni2 C "what" "value")) (D : Dn K mg "check_number" s_checknumber ["what", "value", "least", "most"] f fd)
    (D_isnumber : Dn K mg "is_number" s_isnumber ["value"] f_isn fd_isn) (G_isnumber : FnOk P w K mg base CX0 1 f_isn fd_isn ["value"] spIsNum) : FnOk P w K mg base (L2N.CX P w) 3 f fd ["what", "value", "least", "most"] (spCheckN C) := by
  refine okN D.F sc_checknumber (fun vs H Q E h => ?_) (fun cdv A outer s H vs Q E hr h => ?_)
  · obtain ⟨wh, x, b, lo, hi, rfl, _⟩ := h
    rfl
  · obtain ⟨wh, x, b, lo, hi, rfl, th, h1, h2⟩ := h
    refine ⟨_, (pss_cons (ps_if (PW.pt (pw_or (pt_not (pt_val (pe_call G_isnumber (hr.mono (by omega)) (by rfl) D_isnumber.g D_isnumber.F.kp D_isnumber.b .nil pass0 (pa_cons (pv 1) pa_nil)))) (pw_or1 (pt_not (pt_chain op_le op_le (pv 2) (pv 1) (pv 3))))))
        (pss_one (L2N.ps_raise rfl (L2N.takes_of rfl rfl rfl rfl) (pmkN X.oex X.ini X.fn GI (hr.mono (by omega)) bI pass0 (by rfl) X.g (pa_cons (pv 0) (pa_cons (pv 1) pa_nil))))) pss_nil) (pss_one (ps_ret (pv 1)))), ?_⟩
    walk_at "st"
    refine ⟨x, b, rfl, th, ?_⟩
    have bad : ¬ Fits x b lo hi → tMkO C (spIni2 C "what" "value") [] (tCons (tVar 0) (tCons (tVar 1) tNil)) [some (.str wh), some x, some (.int lo), some (.int hi)] H fun cls d H' => E cls d H' := fun hn => ⟨_, rfl, _, rfl, mk2 (h2 hn)⟩
    refine ⟨b, rfl, ite2 (fun e => bad fun g => ?_) (fun e => ?_)⟩
    · rw [g.1] at e
      cases e
    rcases th with ⟨rfl, _⟩ | ⟨rfl, n, rfl, _⟩
    · exact absurd rfl e
    · refine ⟨n, rfl, ite2 (fun g1 => ⟨n, rfl, ite2 (fun g2 => bad fun g => ?_) (fun g2 => h1 ⟨rfl, n, rfl, g1, Decidable.not_not.mp g2⟩)⟩) (fun g1 => bad fun g => ?_)⟩
      · obtain ⟨_, m, em, _, hm⟩ := g
        cases em
        exact g2 hm
      · obtain ⟨_, m, em, hm, _⟩ := g
        cases em
        exact g1 hm
theorem ok_toldcheck {C fI f f_check f_kinds : Addr} {fd fd_check fd_kinds : FuncData} (D : Dn K mg "_law_told_check" s_toldcheck ["word", "thing", "low", "high"] f fd) (D_check : Dn K mg "check_number" s_checknumber ["what", "value", "least", "most"] f_check fd_check) (D_kinds : Dn K mg "_law_kinds" s_kinds ["error"] f_kinds fd_kinds)
    (kb : KBinds K fd_check ["what", "value", "least", "most"] ["least", "most"] kwG kwG) (X : Exn K mg "BadNumber" C fI) (XF : XfC K C) (no1 : PySem.W.findIn K (.ref C) "what" = some none) (no2 : PySem.W.findIn K (.ref C) "value" = some none) (me : PySem.W.exmOne K (.ref C) (.ref C) = some true)
    (G_check : FnOk P w K mg base (L2N.CX P w) 3 f_check fd_check ["what", "value", "least", "most"] (spCheckN C)) (G_kinds : FnE P w K mg base CX0 1 f_kinds fd_kinds ["error"] (spKinds K C "BadNumber")) : FnOk P w K mg base CX0 5 f fd ["word", "thing", "low", "high"] spToldN := by
  refine D.F.ok sc_toldcheck (fun vs H Q E h => ?_) (fun cdv A outer s H vs Q E hr h => ?_)
  · obtain ⟨wh, x, b, lo, hi, rfl, _⟩ := h
    rfl
  · obtain ⟨wh, x, b, lo, hi, rfl, th, h1, h2⟩ := h
    refine ⟨_, (pss_cons (L2N.ps_try_as (i := 5) (tb := fun W => tAsg (tCallKS (spCheckN C) kwG (WE W) (tCons (tVar 0) (tCons (tVar 1) tNil)) (tCons (tVar 2) (tCons (tVar 3) tNil))) (gName 4))
        (ts := fun a cls d => tRet (tTup (tCons (tC (.str (Str.ofString "raised"))) (tCons (tTup (tCons (tXf a cls d C "what" (tVar 5)) (tCons (tXf a cls d C "value" (tVar 5)) tNil))) (tCons (tKinds C "BadNumber" a cls d 5) tNil))))) (Wout := fun _ _ _ _ => False) rfl rfl sc_toldcheck.nd rfl rfl ⟨rfl, by decide, Or.inl X.g⟩ takesN0
        (fun W pn xe tk _ => pss_one (ps_set (i := 4) sc_toldcheck.nd rfl (Or.inl rfl) (by exact (pe_callKS G_check (hr.mono (by omega)) rfl D_check.g D_check.F.kp kb (fun σ => L2N.passAt tk σ) (pa_cons (pv 0) (pa_cons (pv 1) pa_nil)) (pk_cons (pv 2) (pk_cons (pv 3) pk_nil))))))
        (fun a oe cls d pn hz hf => pss_one (ps_ret (pe_tup (pa_cons pe_str (pa_cons (pe_tup (pa_cons (pe_xf XF no1 hz.zc hf (pv 5)) (pa_cons (pe_xf XF no2 hz.zc hf (pv 5)) pa_nil))) (pa_cons (pe_kinds G_kinds (hr.mono (by omega)) hz hf (by rfl) D_kinds.g D_kinds.F.kp D_kinds.b (pv 5)) pa_nil)))))))
      (pss_one (ps_ret (pe_tup (pa_cons pe_str (pa_cons (pv 4) pa_nil)))))), ?_⟩
    refine r_seq ?_
    refine ⟨_, rfl, _, rfl, _, rfl, _, rfl, wh, x, b, lo, hi, rfl, th, fun g => ?_, fun g d nd => ⟨true, me, fun _ a na => ?_, fun e => Bool.noConfusion e⟩⟩
    · walk_at "rt"
      exact ⟨by decide, fun t nt => h1 g t _ (But0.new nt) upd_same⟩
    · walk_at "rt"
      have lk1 : ([(("value" : Str), x), (("what" : Str), V.str wh)] : List (Str × V)).lookup ("what" : Str) = some (V.str wh) := by
        have ne : (("what" : Str) == ("value" : Str)) = false := by decide +kernel
        simp [List.lookup, ne]
      have lk2 : ([(("value" : Str), x), (("what" : Str), V.str wh)] : List (Str × V)).lookup ("value" : Str) = some x := by simp [List.lookup]
      refine ⟨_, rfl, rfl, rfl, d, _, _, rfl, upd_same, lk1, _, rfl, rfl, rfl, d, _, _, rfl, upd_same, lk2, by decide, fun p np => ⟨rfl, rfl, d, _, rfl, But0.new np _ _ upd_same, fun l H' kp hl => ⟨by decide, fun t nt => ?_⟩⟩⟩
      exact h2 g t p l _ (fun b o e => But0.new nt b o (kp b o (But0.new np b o (But0.new nd b o e)))) upd_same (But0.new nt _ _ (kp _ _ upd_same)) (But0.new nt _ _ hl)
end
end K01
namespace K01
open PySem PySem.Spec PyProof.Rows L2 TL HotExc L2H HotLc
local macro_rules | `(tactic| walk_at "rd") => `(tactic| simp only [start1, wipe, isR, isBool, isInt, isStr, isLst, isTup, tAsg, gName, gSub, tVar, tC, tOp, tUn, tTest, tIfS, tRet, tRetN, tDrop, tB, tAnd, tOr, tNot, tAndV, tOrV, tNotV, tIf, tCB, tCons, tNil, tNext, tCall, tBM, tTup, tLst, rI0, rI, rEq, rNe, scal, forR_eq, forR2_eq, forS_eq, forL_eq, lcT_eq, lcRT_eq, lcS_eq, rLenX, rLenS, rListOf, tRevL, rMulS, rRepL, rCatL, tPart, tNoPart, CwR.tReplC, rAllK, rInSg, rNinSg, sgn_inj, rAddS, rInSt, tChain, tM1, tM0, rSplitN, rJoinN, exists_eq, rIntI, rIntB, rIntS, rStrI, rAbs, rOrd, rMin, rMax, rIxL, rIxX, rSetL, rAppend, rIxS, rSlS, rSlL, tSl, List.map_cons, List.map_nil, List.replicate_succ, List.replicate_zero, List.length_cons, List.length_nil, Nat.reduceSub, Nat.reduceAdd, Nat.zero_add, Nat.sub_self, List.getElem?_cons_zero, List.getElem?_cons_succ, List.set_cons_zero, List.set_cons_succ, List.append_nil, List.nil_append, List.cons_append, Option.some.injEq, not_true_eq_false, reduceCtorEq, exists_eq_left', exists_eq_left, exists_eq', exists_and_left, exists_and_right, V.int.injEq, V.str.injEq, V.bl.injEq, V.ref.injEq, List.cons.injEq, and_true, true_and, and_assoc, decide_eq_true_eq, Bool.not_eq_true', decide_eq_false_iff_not, ite_true, ite_false, if_true, if_false, Bool.not_true, Bool.not_false, Bool.false_eq_true, eq_self_iff_true, reduceIte, ne_eq, Int.reduceEq, not_false_eq_true])
local macro_rules | `(tactic| walk_at "rt") => `(tactic| try walk_at "rd")
local macro_rules | `(tactic| walk_at "st") => `(tactic| (walk_at "rt"; refine r_seq ?_; walk_at "rt"))
local macro_rules | `(tactic| walk_at "hp") => `(tactic| first | assumption | exact upd_same | (rw [upd_ne (by assumption)]; walk_at "hp"))
local macro_rules | `(tactic| walk_at "ex1") => `(tactic| ((with_reducible refine Exists.intro ?w (And.intro ?hx ?_)); (case hx => first | exact sq_of (by walk_at "hp") | exact .inl (sq_of (by walk_at "hp")) | exact rfl | (show _ = some (HO.lst _); walk_at "hp"))))
local macro_rules | `(tactic| walk_at "ex") => `(tactic| repeat (first | walk_at "ex1" | walk_at "rd"))
abbrev s_numbergood : Stmt := topS 77
theorem sc_numbergood : FnScope ["word", "thing", "number", "low", "high", "due"] ["word", "thing", "number", "low", "high"] (defScope s_numbergood) := ⟨rfl, rfl, rfl, by decide +kernel, rfl, by decide +kernel, by decide +kernel⟩
def Keeps (H H' : Hp) : Prop := ∀ b o, H b = some o → H' b = some o
def spDue : Sp := fun vs H Q _ => ∃ (k : Str) (v : V), vs = [.str k, v] ∧ ∀ t l H', Keeps H H' → H' t = some (.tup [.str (Str.ofString "raised"), v, .ref l]) → H' l = some (.lst [.str (Str.ofString "ValueError"), .str (Str.ofString "TworoomsError"), .str k]) → Q (.ref t) H'
def spNumGood : Sp := fun vs H Q _ => ∃ (wh : Str) (x : V) (b : Bool) (lo hi : Int), vs = [.str wh, x, .bl b, .int lo, .int hi] ∧ Thing x b ∧ ∀ H', Keeps H H' → Q (.bl true) H'
theorem at_lst {H : Hp} {a : Addr} {xs : List V} {l : List Dat} (h : H a = some (.lst xs)) (hl : xs.length ≤ 1000000) (r : AtL H (fun _ => True) l xs) : At H (fun _ => True) (.lst l) (.ref a) := ⟨a, xs, rfl, trivial, h, hl, r⟩
theorem at_tup {H : Hp} {a : Addr} {xs : List V} {l : List Dat} (h : H a = some (.tup xs)) (hl : xs.length ≤ 1000000) (r : AtL H (fun _ => True) l xs) : At H (fun _ => True) (.tup l) (.ref a) := ⟨a, xs, rfl, trivial, h, hl, r⟩
theorem atl_cons {H : Hp} {A : Addr → Prop} {d : Dat} {l : List Dat} {v : V} {r : List V} (h : At H A d v) (h2 : AtL H A l r) : AtL H A (d :: l) (v :: r) := ⟨v, r, rfl, h, h2⟩
theorem thing_dat {x : V} {b : Bool} (t : Thing x b) : ∃ X : Dat, (∀ H A, At H A X x) ∧ X.dep = 0 := by
  rcases t with ⟨_, ⟨k, rfl⟩ | rfl | ⟨z, rfl, _⟩⟩ | ⟨_, n, rfl, _⟩
  · exact ⟨.bl k, fun _ _ => rfl, rfl⟩
  · exact ⟨.non, fun _ _ => rfl, rfl⟩
  · exact ⟨.str z, fun _ _ => rfl, rfl⟩
  · exact ⟨.int n, fun _ _ => rfl, rfl⟩
section
variable {P : Program} {w : World} {K : PySem.W.Frag} {mg : Str → Option Value} {base : Heap}
theorem ok_due {f : Addr} {fd : FuncData} (D : Dn K mg "_law_due" s_due ["kind", "values"] f fd) : FnOk P w K mg base CX0 1 f fd ["kind", "values"] spDue := by
  refine D.F.ok sc_due (fun vs H Q E h => ?_) (fun cdv A outer s H vs Q E hr h => ?_)
  · obtain ⟨k, v, rfl, _⟩ := h
    rfl
  · obtain ⟨k, v, rfl, q⟩ := h
    refine ⟨_, (pss_one (ps_ret (pe_tup (pa_cons pe_str (pa_cons (pv 1) (pa_cons (pe_lst (pa_cons pe_str (pa_cons pe_str (pa_cons (pv 0) pa_nil)))) pa_nil)))))), ?_⟩
    walk_at "rt"
    exact ⟨by decide, fun l nl => ⟨by decide, fun t nt => q t l _ (fun b o e => But0.new nt b o (But0.new nl b o e)) upd_same (But0.new nt _ _ upd_same)⟩⟩
theorem ok_numbergood {f f_due f_isn f_told f_same : Addr} {fd fd_due fd_isn fd_told fd_same : FuncData} (B : Bi mg) (D : Dn K mg "_law_number_good" s_numbergood ["word", "thing", "number", "low", "high"] f fd) (D_due : Dn K mg "_law_due" s_due ["kind", "values"] f_due fd_due)
    (D_isnumber : Dn K mg "is_number" s_isnumber ["value"] f_isn fd_isn) (D_toldcheck : Dn K mg "_law_told_check" s_toldcheck ["word", "thing", "low", "high"] f_told fd_told) (D_same : Dn K mg "_law_same" s_same ["one", "two"] f_same fd_same)
    (G_due : FnOk P w K mg base CX0 1 f_due fd_due ["kind", "values"] spDue) (G_isnumber : FnOk P w K mg base CX0 1 f_isn fd_isn ["value"] spIsNum) (G_toldcheck : FnOk P w K mg base CX0 5 f_told fd_told ["word", "thing", "low", "high"] spToldN) (G_same : FnOk P w K mg base CX0 8 f_same fd_same ["one", "two"] (spSame 3)) :
    FnOk P w K mg base CX0 9 f fd ["word", "thing", "number", "low", "high"] spNumGood := by
  refine D.F.ok sc_numbergood (fun vs H Q E h => ?_) (fun cdv A outer s H vs Q E hr h => ?_)
  · obtain ⟨wh, x, b, lo, hi, rfl, _⟩ := h
    rfl
  · obtain ⟨wh, x, b, lo, hi, rfl, th, q⟩ := h
    refine ⟨_, (pss_cons (ps_set (i := 5) sc_numbergood.nd rfl (.inl rfl) (pe_call G_due (hr.mono (by omega)) (by rfl) D_due.g D_due.F.kp D_due.b .nil pass0 (pa_cons pe_str (pa_cons (pe_tup (pa_cons (pv 0) (pa_cons (pv 1) pa_nil))) pa_nil))))
      (C8.pss_cut (ps_if (PW.pt (pw_and (pt_val (pv 2)) (pw_and (pt_cmpR op_le (pv 3) (pv 1) (nomark _)) (pw_and1 (pt_cmpR op_le (pv 1) (pv 4) (nomark _)))))) (pss_one (ps_set (i := 5) sc_numbergood.nd rfl (.inl rfl) (pe_tup (pa_cons pe_str (pa_cons (pv 1) pa_nil))))) pss_nil)
      (pss_one (ps_ret (pe_call G_same (hr.mono (by omega)) (by rfl) D_same.g D_same.F.kp D_same.b .nil pass0 (pa_cons (pe_lst (pa_cons (pe_call G_isnumber (hr.mono (by omega)) (by rfl) D_isnumber.g D_isnumber.F.kp D_isnumber.b .nil pass0 (pa_cons (pv 1) pa_nil)) (pa_cons (pe_call G_toldcheck (hr.mono (by omega)) (by rfl) D_toldcheck.g D_toldcheck.F.kp D_toldcheck.b .nil pass0 (pa_cons (pv 0) (pa_cons (pv 1) (pa_cons (pv 3) (pa_cons (pv 4) pa_nil))))) pa_nil))) (pa_cons (pe_lst (pa_cons (pv 2) (pa_cons (pv 5) pa_nil))) pa_nil))))))), ?_⟩
    walk_at "st"
    refine ⟨by decide, fun p np => ⟨_, _, rfl, fun t l H1 k1 ht hl => ?_⟩⟩
    obtain ⟨X, hX, dX⟩ := thing_dat th
    by_cases g : Fits x b lo hi
    · obtain ⟨rfl, n, rfl, g1, g2⟩ := id g
      refine r_cut (fun σ H' => ∃ du, σ = [some (.str wh), some (.int n), some (.bl true), some (.int lo), some (.int hi), some (.ref du)] ∧ Keeps H H' ∧ H' du = some (.tup [.str (Str.ofString "gave"), .int n])) (fun N kN => ?_) ?_
      · walk_at "rt"
        exact ite2 (fun _ => ite2 (fun _ => ⟨by decide, fun u nu => kN _ _ ⟨u, rfl, fun b o e => But0.new nu b o (k1 b o (But0.new np b o e)), upd_same⟩⟩) (fun e => absurd g2 e)) (fun e => absurd g1 e)
      · rintro σ H2 ⟨du, rfl, k2, hdu⟩
        walk_at "rt"
        refine ⟨_, _, rfl, th, wh, _, _, lo, hi, rfl, th, fun _ t3 H3 k3 h3 => ⟨by decide, fun q1 nq1 => ⟨by decide, fun q2 nq2 => ?_⟩⟩, fun ng => absurd g ng⟩
        have a1 : ∀ {H' : Hp} {v : Addr}, H' v = some (.tup [.str (Str.ofString "gave"), .int n]) → At H' (fun _ => True) (.tup [.str (Str.ofString "gave"), .int n]) (.ref v) := fun h => at_tup h (Nat.le_of_ble_eq_true rfl) (atl_cons rfl (atl_cons rfl rfl))
        refine ⟨_, _, fun _ => True, fun _ => True, .lst [.bl true, .tup [.str (Str.ofString "gave"), .int n]], .lst [.bl true, .tup [.str (Str.ofString "gave"), .int n]], rfl, ?_, ?_, (by simp only [Dat.dep, depL]; decide), ?_⟩
        · exact at_lst (But0.new nq2 _ _ upd_same) (Nat.le_of_ble_eq_true rfl) (atl_cons rfl (atl_cons (a1 (But0.new nq2 _ _ (But0.new nq1 _ _ h3))) rfl))
        · exact at_lst upd_same (Nat.le_of_ble_eq_true rfl) (atl_cons rfl (atl_cons (a1 (But0.new nq2 _ _ (But0.new nq1 _ _ (k3 _ _ hdu)))) rfl))
        · rw [same_refl]
          exact q _ fun b o e => But0.new nq2 b o (But0.new nq1 b o (k3 b o (k2 b o e)))
    · have hp1 : H1 p = some (.tup [.str wh, x]) := k1 _ _ upd_same
      refine r_cut (fun σ H' => σ = [some (.str wh), some x, some (.bl b), some (.int lo), some (.int hi), some (.ref t)] ∧ H' = H1) (fun N kN => ?_) ?_
      · rcases id th with ⟨rfl, _⟩ | ⟨rfl, n, rfl, _⟩
        · walk_at "rt"
          exact kN _ _ ⟨rfl, rfl⟩
        · walk_at "rt"
          exact ite2 (fun e1 => ite2 (fun e2 => absurd ⟨rfl, n, rfl, e1, e2⟩ g) (fun _ => kN _ _ ⟨rfl, rfl⟩)) (fun _ => kN _ _ ⟨rfl, rfl⟩)
      · rintro σ H2 ⟨rfl, rfl⟩
        walk_at "rt"
        refine ⟨_, _, rfl, th, wh, _, _, lo, hi, rfl, th, fun g' => absurd g' g, fun _ t3 u3 l3 H3 k3 h3 hu3 hl3 => ⟨by decide, fun q1 nq1 => ⟨by decide, fun q2 nq2 => ?_⟩⟩⟩
        have a1 : ∀ {H' : Hp} {v v2 v3 : Addr}, H' v = some (.tup [.str (Str.ofString "raised"), .ref v2, .ref v3]) → H' v2 = some (.tup [.str wh, x]) → H' v3 = some (.lst [.str (Str.ofString "ValueError"), .str (Str.ofString "TworoomsError"), .str (Str.ofString "BadNumber")]) →
            At H' (fun _ => True) (.tup [.str (Str.ofString "raised"), .tup [.str wh, X], .lst [.str (Str.ofString "ValueError"), .str (Str.ofString "TworoomsError"), .str (Str.ofString "BadNumber")]]) (.ref v) := fun h h2 h3 =>
          at_tup h (Nat.le_of_ble_eq_true rfl) (atl_cons rfl (atl_cons (at_tup h2 (Nat.le_of_ble_eq_true rfl) (atl_cons rfl (atl_cons (hX _ _) rfl))) (atl_cons (at_lst h3 (Nat.le_of_ble_eq_true rfl) (atl_cons rfl (atl_cons rfl (atl_cons rfl rfl)))) rfl)))
        have hl3 : H3 l3 = some (.lst [.str (Str.ofString "ValueError"), .str (Str.ofString "TworoomsError"), .str (Str.ofString "BadNumber")]) := hl3
        refine ⟨_, _, fun _ => True, fun _ => True, .lst [.bl b, .tup [.str (Str.ofString "raised"), .tup [.str wh, X], .lst [.str (Str.ofString "ValueError"), .str (Str.ofString "TworoomsError"), .str (Str.ofString "BadNumber")]]],
          .lst [.bl b, .tup [.str (Str.ofString "raised"), .tup [.str wh, X], .lst [.str (Str.ofString "ValueError"), .str (Str.ofString "TworoomsError"), .str (Str.ofString "BadNumber")]]], rfl, ?_, ?_, ?_, ?_⟩
        · exact at_lst (But0.new nq2 _ _ upd_same) (Nat.le_of_ble_eq_true rfl) (atl_cons rfl (atl_cons (a1 (But0.new nq2 _ _ (But0.new nq1 _ _ h3)) (But0.new nq2 _ _ (But0.new nq1 _ _ hu3)) (But0.new nq2 _ _ (But0.new nq1 _ _ hl3))) rfl))
        · exact at_lst upd_same (Nat.le_of_ble_eq_true rfl) (atl_cons rfl (atl_cons (a1 (But0.new nq2 _ _ (But0.new nq1 _ _ (k3 _ _ ht))) (But0.new nq2 _ _ (But0.new nq1 _ _ (k3 _ _ hp1))) (But0.new nq2 _ _ (But0.new nq1 _ _ (k3 _ _ hl)))) rfl))
        · simp only [Dat.dep, depL, dX]
          decide
        · rw [same_refl]
          exact q _ fun b o e => But0.new nq2 b o (But0.new nq1 b o (k3 b o (k1 b o (But0.new np b o e))))
end
end K01
namespace K01
open PySem PySem.Spec PyProof.Rows L2 TL HotExc L2H HotLc
local macro_rules | `(tactic| walk_at "rd") => `(tactic| simp only [start1, wipe, isR, isBool, isInt, isStr, isLst, isTup, tAsg, gName, gSub, tVar, tC, tOp, tUn, tTest, tIfS, tRet, tRetN, tDrop, tB, tAnd, tOr, tNot, tAndV, tOrV, tNotV, tIf, tCB, tCons, tNil, tNext, tCall, tBM, tTup, tLst, rI0, rI, rEq, rNe, scal, forR_eq, forR2_eq, forS_eq, forL_eq, lcT_eq, lcRT_eq, lcS_eq, rLenX, rLenS, rListOf, tRevL, rMulS, rRepL, rCatL, tPart, tNoPart, CwR.tReplC, rAllK, rInSg, rNinSg, sgn_inj, rAddS, rInSt, tChain, tM1, tM0, rSplitN, rJoinN, exists_eq, rIntI, rIntB, rIntS, rStrI, rAbs, rOrd, rMin, rMax, rIxL, rIxX, rSetL, rAppend, rIxS, rSlS, rSlL, tSl, List.map_cons, List.map_nil, List.replicate_succ, List.replicate_zero, List.length_cons, List.length_nil, Nat.reduceSub, Nat.reduceAdd, Nat.zero_add, Nat.sub_self, List.getElem?_cons_zero, List.getElem?_cons_succ, List.set_cons_zero, List.set_cons_succ, List.append_nil, List.nil_append, List.cons_append, Option.some.injEq, not_true_eq_false, reduceCtorEq, exists_eq_left', exists_eq_left, exists_eq', exists_and_left, exists_and_right, V.int.injEq, V.str.injEq, V.bl.injEq, V.ref.injEq, List.cons.injEq, and_true, true_and, and_assoc, decide_eq_true_eq, Bool.not_eq_true', decide_eq_false_iff_not, ite_true, ite_false, if_true, if_false, Bool.not_true, Bool.not_false, Bool.false_eq_true, eq_self_iff_true, reduceIte, ne_eq, Int.reduceEq, not_false_eq_true])
local macro_rules | `(tactic| walk_at "rt") => `(tactic| try walk_at "rd")
local macro_rules | `(tactic| walk_at "st") => `(tactic| (walk_at "rt"; refine r_seq ?_; walk_at "rt"))
local macro_rules | `(tactic| walk_at "hp") => `(tactic| first | assumption | exact upd_same | (rw [upd_ne (by assumption)]; walk_at "hp"))
local macro_rules | `(tactic| walk_at "ex1") => `(tactic| ((with_reducible refine Exists.intro ?w (And.intro ?hx ?_)); (case hx => first | exact sq_of (by walk_at "hp") | exact .inl (sq_of (by walk_at "hp")) | exact rfl | (show _ = some (HO.lst _); walk_at "hp"))))
local macro_rules | `(tactic| walk_at "ex") => `(tactic| repeat (first | walk_at "ex1" | walk_at "rd"))
abbrev s_textgood : Stmt := topS 76
theorem sc_textgood : FnScope ["word", "other", "sign", "hands", "due", "told"] ["word"] (defScope s_textgood) := ⟨rfl, rfl, rfl, by decide +kernel, rfl, by decide +kernel, by decide +kernel⟩
def spTextGood : Sp := fun vs H Q _ => ∃ z : Str, vs = [.str z] ∧ z.length ≤ 1000000 ∧ ∀ H', Keeps H H' → Q (.bl true) H'
def dk2 (a b c d : Str) : HO := .dK [(.inr a, .str b), (.inr c, .str d)]
theorem r_disp2 {a b c d : Str} {σ : L2.St} {H : Hp} {Q : VK} (ne : a ≠ c) (q : ∀ p, H p = none → Q (.ref p) (L2.upd H p (dk2 a b c d))) : tDisp [(tC (.str a), tC (.str b)), (tC (.str c), tC (.str d))] σ H Q := by
  intro p np
  refine ⟨upd_same, [(.inr a, .str b), (.inr c, .str d)], rfl, Nat.le_of_ble_eq_true rfl, ?_⟩
  have e : mergeK [] [((.inr a : Key), V.str b), (.inr c, .str d)] = ([(.inr a, .str b), (.inr c, .str d)] : List (Key × V)) := by
    have ne' : (Sum.inr a : Key) ≠ Sum.inr c := fun z => ne (Sum.inr.inj z)
    show putK (putK ([] : List (Key × V)) (Sum.inr a) (V.str b)) (Sum.inr c) (V.str d) = _
    have e1 : putK ([] : List (Key × V)) (.inr a) (.str b) = ([(.inr a, .str b)] : List (Key × V)) := rfl
    rw [e1]
    unfold putK
    simp [ne']
  have e2 : L2.upd (L2.upd H p (.dK [])) p (.dK (mergeK [] [((.inr a : Key), V.str b), (.inr c, .str d)])) = L2.upd H p (dk2 a b c d) := by
    rw [e]
    funext x
    by_cases h : x = p
    · rw [h, upd_same, upd_same]
      rfl
    · rw [upd_ne h, upd_ne h, upd_ne h]
  have q1 := q p np
  rw [← e2] at q1
  exact q1
theorem valV2 (a b c d z : Str) : valV [((.inr a : Key), V.str b), (.inr c, .str d)] (.inr z) = ([(a, b), (c, d)].lookup z).map V.str := by
  unfold valV
  by_cases h1 : z = a
  · subst h1
    simp [List.lookup]
  · have e1 : (z == a) = false := by simpa using h1
    have n1 : ¬ ((Sum.inr a : Key) = Sum.inr z) := fun e => h1 (Sum.inr.inj e).symm
    by_cases h2 : z = c
    · subst h2
      simp [List.lookup, List.find?, e1, n1]
    · have e2 : (z == c) = false := by simpa using h2
      have n2 : ¬ ((Sum.inr c : Key) = Sum.inr z) := fun e => h2 (Sum.inr.inj e).symm
      simp [List.lookup, List.find?, e1, e2, n1, n2]
theorem dget2 {H : Hp} {p : Addr} {a b c d : Str} (h : H p = some (dk2 a b c d)) (z : Str) : DGet H p (.str z) (([(a, b), (c, d)].lookup z).map V.str) := .inl ⟨_, .inr z, .inl h, rfl, (valV2 a b c d z).symm⟩
def dueD (z : Str) (ps : List (Str × Str)) : Dat := match ps.lookup z with
  | some y => .tup [.str (Str.ofString "gave"), .str y]
  | none => .tup [.str (Str.ofString "raised"), .tup [.str z], .lst [.str (Str.ofString "ValueError"), .str (Str.ofString "TworoomsError"), .str (Str.ofString "NoHand")]]
theorem look_none (a b c d z : Str) : [(a, b), (c, d)].lookup z = none ↔ z ∉ [a, c] := by
  by_cases h1 : z = a
  · subst h1
    simp [List.lookup]
  · have e1 : (z == a) = false := by simpa using h1
    by_cases h2 : z = c
    · subst h2
      simp [List.lookup, e1]
    · have e2 : (z == c) = false := by simpa using h2
      simp [List.lookup, e1, e2, h1, h2]
theorem oth_none (z : Str) : others.lookup z = none ↔ z ∉ hands := look_none (Str.ofString "dark") _ (Str.ofString "light") _ z
theorem sgn_none (z : Str) : signs.lookup z = none ↔ z ∉ hands := look_none (Str.ofString "dark") _ (Str.ofString "light") _ z
theorem look_some {ps : List (Str × Str)} {z : Str} (h : ps.lookup z ≠ none) : ∃ y, ps.lookup z = some y := by
  cases e : ps.lookup z with
  | none => exact absurd e h
  | some y => exact ⟨y, rfl⟩
theorem at_raised {H : Hp} {t u l : Addr} {z k : Str} (h1 : H t = some (.tup [.str (Str.ofString "raised"), .ref u, .ref l])) (h2 : H u = some (.tup [.str z])) (h3 : H l = some (.lst [.str (Str.ofString "ValueError"), .str (Str.ofString "TworoomsError"), .str k])) :
    At H (fun _ => True) (.tup [.str (Str.ofString "raised"), .tup [.str z], .lst [.str (Str.ofString "ValueError"), .str (Str.ofString "TworoomsError"), .str k]]) (.ref t) :=
  at_tup h1 (Nat.le_of_ble_eq_true rfl) (atl_cons rfl (atl_cons (at_tup h2 (Nat.le_of_ble_eq_true rfl) (atl_cons rfl rfl)) (atl_cons (at_lst h3 (Nat.le_of_ble_eq_true rfl) (atl_cons rfl (atl_cons rfl (atl_cons rfl rfl)))) rfl)))
theorem r_told {ps : List (Str × Str)} {z : Str} {H : Hp} {Q : VK} {E : XK} (hn : ps.lookup z = none ↔ z ∉ hands) (q : ∀ v H', Keeps H H' → At H' (fun _ => True) (dueD z ps) v → Q v H') : spTold ps [.str z] H Q E := by
  refine ⟨z, rfl, fun y hy t H' k h => q _ _ k ?_, fun hz t t2 l H' k h h2 h3 => q _ _ k ?_⟩
  · unfold dueD
    rw [hy]
    exact at_tup h (Nat.le_of_ble_eq_true rfl) (atl_cons rfl (atl_cons rfl rfl))
  · unfold dueD
    rw [hn.mpr hz]
    exact at_raised h h2 h3
theorem dueD_dep (z : Str) (ps : List (Str × Str)) : (dueD z ps).dep ≤ 2 := by
  unfold dueD
  split <;> (simp only [Dat.dep, depL]; decide)
def handD (z : Str) : Dat := match handsOf.lookup z with
  | some y => .str y
  | none => .non
theorem hand_at {H : Hp} {A : Addr → Prop} {z : Str} : At H A (handD z) (match handsOf.lookup z with | some y => .str y | none => .non) := by
  unfold handD
  cases handsOf.lookup z <;> rfl
theorem hand_at2 {H : Hp} {A : Addr → Prop} {z : Str} : At H A (handD z) (((handsOf.lookup z).map V.str).getD .non) := by
  unfold handD
  cases handsOf.lookup z <;> rfl
section
variable {P : Program} {w : World} {K : PySem.W.Frag} {mg : Str → Option Value} {base : Heap}
theorem ok_textgood {f f_due f_to f_ts f_ho f_in f_nm f_same : Addr} {fd fd_due fd_to fd_ts fd_ho fd_in fd_nm fd_same : FuncData} (B : Bi mg) (D : Dn K mg "_law_text_good" s_textgood ["word"] f fd) (D_due : Dn K mg "_law_due" s_due ["kind", "values"] f_due fd_due)
    (D_to : Dn K mg "_law_told_other" s_toldother ["word"] f_to fd_to) (D_ts : Dn K mg "_law_told_sign" s_toldsign ["word"] f_ts fd_ts) (D_ho : Dn K mg "hand_of" s_handof ["sign"] f_ho fd_ho) (D_in : Dn K mg "is_name" s_isname ["text"] f_in fd_in)
    (D_nm : Dn K mg "_law_named" s_named ["word"] f_nm fd_nm) (D_same : Dn K mg "_law_same" s_same ["one", "two"] f_same fd_same)
    (G_due : FnOk P w K mg base CX0 1 f_due fd_due ["kind", "values"] spDue) (G_to : FnOk P w K mg base CX0 5 f_to fd_to ["word"] (spTold others)) (G_ts : FnOk P w K mg base CX0 5 f_ts fd_ts ["word"] (spTold signs)) (G_ho : FnOk P w K mg base CX0 1 f_ho fd_ho ["sign"] spHandOf)
    (G_in : FnOk P w K mg base CX0 1 f_in fd_in ["text"] spNamed) (G_nm : FnOk P w K mg base CX0 1 f_nm fd_nm ["word"] spNamed) (G_same : FnOk P w K mg base CX0 8 f_same fd_same ["one", "two"] (spSame 3)) :
    FnOk P w K mg base CX0 9 f fd ["word"] spTextGood := by
  refine D.F.ok sc_textgood (fun vs H Q E h => ?_) (fun cdv A outer s H vs Q E hr h => ?_)
  · obtain ⟨z, rfl, _⟩ := h
    rfl
  · obtain ⟨z, rfl, hz, q⟩ := h
    refine ⟨_, (pss_cons (ps_set (i := 1) sc_textgood.nd rfl (.inl rfl) (pe_disp (pps_cons pe_str pe_str (pps_cons pe_str pe_str pps_nil)) rfl rfl (List.cons_ne_nil _ _) (Nat.le_of_ble_eq_true rfl)))
      (pss_cons (ps_set (i := 2) sc_textgood.nd rfl (.inl rfl) (pe_disp (pps_cons pe_str pe_str (pps_cons pe_str pe_str pps_nil)) rfl rfl (List.cons_ne_nil _ _) (Nat.le_of_ble_eq_true rfl)))
      (pss_cons (ps_set (i := 3) sc_textgood.nd rfl (.inl rfl) (pe_disp (pps_cons pe_str pe_str (pps_cons pe_str pe_str pps_nil)) rfl rfl (List.cons_ne_nil _ _) (Nat.le_of_ble_eq_true rfl)))
      (C8.pss_cut (ps_if (pt_cmp (pc_din (hu_of hr) (pv 0) (pv 1))) (pss_one (ps_set (i := 4) sc_textgood.nd rfl (.inl rfl) (pe_lst (pa_cons (pe_tup (pa_cons pe_str (pa_cons (pe_dget (hu_of hr) (pv 1) (pv 0) (fun _ _ => rfl)) pa_nil))) (pa_cons (pe_tup (pa_cons pe_str (pa_cons (pe_dget (hu_of hr) (pv 2) (pv 0) (fun _ _ => rfl)) pa_nil))) pa_nil))))) (pss_one (ps_set (i := 4) sc_textgood.nd rfl (.inl rfl) (pe_lst (pa_cons (pe_call G_due (hr.mono (by omega)) (by rfl) D_due.g D_due.F.kp D_due.b .nil pass0 (pa_cons pe_str (pa_cons (pe_tup (pa_cons (pv 0) pa_nil)) pa_nil))) (pa_cons (pe_call G_due (hr.mono (by omega)) (by rfl) D_due.g D_due.F.kp D_due.b .nil pass0 (pa_cons pe_str (pa_cons (pe_tup (pa_cons (pv 0) pa_nil)) pa_nil))) pa_nil))))))
      (pss_cons (ps_set (i := 5) sc_textgood.nd rfl (.inl rfl) (pe_lst (pa_cons (pe_call G_to (hr.mono (by omega)) (by rfl) D_to.g D_to.F.kp D_to.b .nil pass0 (pa_cons (pv 0) pa_nil)) (pa_cons (pe_call G_ts (hr.mono (by omega)) (by rfl) D_ts.g D_ts.F.kp D_ts.b .nil pass0 (pa_cons (pv 0) pa_nil)) (pa_cons (pe_call G_ho (hr.mono (by omega)) (by rfl) D_ho.g D_ho.F.kp D_ho.b .nil pass0 (pa_cons (pv 0) pa_nil)) (pa_cons (pe_call G_in (hr.mono (by omega)) (by rfl) D_in.g D_in.F.kp D_in.b .nil pass0 (pa_cons (pv 0) pa_nil)) pa_nil))))))
      (pss_one (ps_ret (pe_call G_same (hr.mono (by omega)) (by rfl) D_same.g D_same.F.kp D_same.b .nil pass0 (pa_cons (pv 5) (pa_cons (pe_op op_catL (pv 4) (pe_lst (pa_cons (pe_dget1 (hu_of hr) (pv 3) (pv 0) ⟨rfl, rfl, rfl, rfl⟩) (pa_cons (pe_call G_nm (hr.mono (by omega)) (by rfl) D_nm.g D_nm.F.kp D_nm.b .nil pass0 (pa_cons (pv 0) pa_nil)) pa_nil)))) pa_nil)))))))))), ?_⟩
    walk_at "st"
    refine r_disp2 dark_light fun p1 n1 => ?_
    walk_at "st"
    refine r_disp2 dark_light fun p2 n2 => ?_
    walk_at "st"
    refine r_disp2 (by decide +kernel) fun p3 n3 => ?_
    have k3 : Keeps H (L2.upd (L2.upd (L2.upd H p1 (dk2 "dark" "light" "light" "dark")) p2 (dk2 "dark" "d" "light" "l")) p3 (dk2 "d" "dark" "l" "light")) := fun b o e => But0.new n3 b o (But0.new n2 b o (But0.new n1 b o e))
    have d1 : L2.upd (L2.upd (L2.upd H p1 (dk2 "dark" "light" "light" "dark")) p2 (dk2 "dark" "d" "light" "l")) p3 (dk2 "d" "dark" "l" "light") p1 = some (dk2 "dark" "light" "light" "dark") := But0.new n3 _ _ (But0.new n2 _ _ upd_same)
    have d2 : L2.upd (L2.upd (L2.upd H p1 (dk2 "dark" "light" "light" "dark")) p2 (dk2 "dark" "d" "light" "l")) p3 (dk2 "d" "dark" "l" "light") p2 = some (dk2 "dark" "d" "light" "l") := But0.new n3 _ _ upd_same
    have d3 : L2.upd (L2.upd (L2.upd H p1 (dk2 "dark" "light" "light" "dark")) p2 (dk2 "dark" "d" "light" "l")) p3 (dk2 "d" "dark" "l" "light") p3 = some (dk2 "d" "dark" "l" "light") := upd_same
    generalize L2.upd (L2.upd (L2.upd H p1 (dk2 "dark" "light" "light" "dark")) p2 (dk2 "dark" "d" "light" "l")) p3 (dk2 "d" "dark" "l" "light") = H3 at k3 d1 d2 d3 ⊢
    have g1 : DGet H3 p1 (.str z) ((others.lookup z).map V.str) := dget2 d1 z
    have g2 : DGet H3 p2 (.str z) ((signs.lookup z).map V.str) := dget2 d2 z
    refine r_cut (fun σ H' => ∃ du u1 u2, σ = [some (.str z), some (.ref p1), some (.ref p2), some (.ref p3), some (.ref du), none] ∧ Keeps H3 H' ∧ H' du = some (.lst [u1, u2]) ∧ At H' (fun _ => True) (dueD z others) u1 ∧ At H' (fun _ => True) (dueD z signs) u2) (fun N kN => ?_) ?_
    · walk_at "rt"
      refine ⟨_, rfl, _, rfl, p1, _, rfl, g1, _, rfl, ite2 (fun e => ?_) (fun e => ?_)⟩
      · have hin : z ∈ hands := by
          apply Decidable.byContradiction
          intro hn
          rw [(oth_none z).mpr hn] at e
          cases e
        obtain ⟨y1, l1⟩ := look_some (ps := others) (fun e => (oth_none z).mp e hin)
        obtain ⟨y2, l2⟩ := look_some (ps := signs) (fun e => (sgn_none z).mp e hin)
        have G1 : DGet H3 p1 (.str z) (some (.str y1)) := by
          rw [l1] at g1
          exact g1
        refine ⟨_, rfl, _, rfl, p1, _, rfl, G1, by decide, fun q1 nq1 => ?_⟩
        have G2 : DGet (L2.upd H3 q1 (.tup [.str (Str.ofString "gave"), .str y1])) p2 (.str z) (some (.str y2)) := by
          have g := dget2 (But0.new nq1 _ _ d2) z (H := L2.upd H3 q1 (.tup [.str (Str.ofString "gave"), .str y1]))
          rw [show [(("dark" : Str), ("d" : Str)), ("light", "l")].lookup z = some y2 from l2] at g
          exact g
        refine ⟨_, rfl, _, rfl, p2, _, rfl, G2, by decide, fun q2 nq2 => ⟨by decide, fun q3 nq3 => kN _ _ ⟨q3, _, _, rfl, fun b o e => But0.new nq3 b o (But0.new nq2 b o (But0.new nq1 b o e)), upd_same, ?_, ?_⟩⟩⟩
        · unfold dueD
          rw [l1]
          exact at_tup (But0.new nq3 _ _ (But0.new nq2 _ _ upd_same)) (Nat.le_of_ble_eq_true rfl) (atl_cons rfl (atl_cons rfl rfl))
        · unfold dueD
          rw [l2]
          exact at_tup (But0.new nq3 _ _ upd_same) (Nat.le_of_ble_eq_true rfl) (atl_cons rfl (atl_cons rfl rfl))
      · have l1 : others.lookup z = none := by
          cases h : others.lookup z with
          | none => rfl
          | some y => exact absurd (by rw [h]; rfl) e
        have l2 : signs.lookup z = none := (sgn_none z).mpr ((oth_none z).mp l1)
        have dn : ∀ {H' : Hp} {t u l : Addr} {ps : List (Str × Str)}, ps.lookup z = none → H' t = some (.tup [.str (Str.ofString "raised"), .ref u, .ref l]) → H' u = some (.tup [.str z]) → H' l = some (.lst [.str (Str.ofString "ValueError"), .str (Str.ofString "TworoomsError"), .str (Str.ofString "NoHand")]) → At H' (fun _ => True) (dueD z ps) (.ref t) := fun hl h1 h2 h3 => by
          unfold dueD
          rw [hl]
          exact at_raised h1 h2 h3
        refine ⟨by decide, fun q1 nq1 => ⟨_, _, rfl, fun t l H5 k5 ht hl => ⟨by decide, fun q2 nq2 => ⟨_, _, rfl, fun t2 l2' H6 k6 ht2 hl2 => ⟨by decide, fun q3 nq3 => kN _ _ ⟨q3, _, _, rfl, ?_, upd_same, ?_, ?_⟩⟩⟩⟩⟩⟩
        · exact fun b o e => But0.new nq3 b o (k6 b o (But0.new nq2 b o (k5 b o (But0.new nq1 b o e))))
        · exact dn l1 (But0.new nq3 _ _ (k6 _ _ (But0.new nq2 _ _ ht))) (But0.new nq3 _ _ (k6 _ _ (But0.new nq2 _ _ (k5 _ _ upd_same)))) (But0.new nq3 _ _ (k6 _ _ (But0.new nq2 _ _ hl)))
        · exact dn l2 (But0.new nq3 _ _ ht2) (But0.new nq3 _ _ (k6 _ _ upd_same)) (But0.new nq3 _ _ hl2)
    · rintro σ H4 ⟨du, u1, u2, rfl, k4, hdu, a1, a2⟩
      walk_at "st"
      have at_k : ∀ {G G' : Hp} {d : Dat} {v : V}, Keeps G G' → At G (fun _ => True) d v → At G' (fun _ => True) d v := fun k h => At.mono (fun _ t => t) (fun p o _ e => k p o e) _ _ h
      refine r_told (oth_none z) fun v1 H5 k5 b1 => r_told (sgn_none z) fun v2 H6 k6 b2 => ⟨z, rfl, z, rfl, hz, fun H7 k7 => ⟨by decide, fun q1 nq1 => ?_⟩⟩
      have d3' : ∀ x : HO, L2.upd H7 q1 x p3 = some (dk2 "d" "dark" "l" "light") := fun x => But0.new nq1 _ _ (k7 _ _ (k6 _ _ (k5 _ _ (k4 _ _ d3))))
      refine ⟨_, rfl, p3, rfl, .inl ⟨_, .inl (d3' _)⟩, _, rfl, _, dget2 (d3' _) z, z, rfl, hz, fun H8 k8 => ⟨by decide, fun q2 nq2 => ⟨_, But0.new nq2 _ _ (k8 _ _ (But0.new nq1 _ _ (k7 _ _ (k6 _ _ (k5 _ _ hdu))))), _, upd_same, line_of (Nat.le_of_ble_eq_true rfl), fun q3 nq3 => ?_⟩⟩⟩
      have up : ∀ {d : Dat} {v : V} {y2 : HO}, At H7 (fun _ => True) d v → At (L2.upd (L2.upd H8 q2 (.lst [((handsOf.lookup z).map V.str).getD .non, .bl (nmB (tl z))])) q3 y2) (fun _ => True) d v := fun h => at_k (fun b o e => But0.new nq3 b o (But0.new nq2 b o (k8 b o (But0.new nq1 b o e)))) h
      refine ⟨_, _, fun _ => True, fun _ => True, .lst [dueD z others, dueD z signs, handD z, .bl (nmB (tl z))], .lst [dueD z others, dueD z signs, handD z, .bl (nmB (tl z))], rfl, ?_, ?_, ?_, ?_⟩
      · refine at_lst (But0.new nq3 _ _ (But0.new nq2 _ _ (k8 _ _ upd_same))) (Nat.le_of_ble_eq_true rfl) (atl_cons (up (at_k k7 (at_k k6 b1))) (atl_cons (up (at_k k7 b2)) (atl_cons (up hand_at) (atl_cons rfl rfl))))
      · refine at_lst upd_same (Nat.le_of_ble_eq_true rfl) (atl_cons (up (at_k k7 (at_k k6 (at_k k5 a1)))) (atl_cons (up (at_k k7 (at_k k6 (at_k k5 a2)))) (atl_cons (up hand_at2) (atl_cons rfl rfl))))
      · simp only [Dat.dep, depL]
        have i1 := dueD_dep z others
        have i2 := dueD_dep z signs
        have i3 : (handD z).dep = 0 := by
          unfold handD
          split <;> rfl
        omega
      · rw [same_refl]
        exact q _ fun b o e => But0.new nq3 b o (But0.new nq2 b o (k8 b o (But0.new nq1 b o (k7 b o (k6 b o (k5 b o (k4 b o (k3 b o e))))))))
end
end K01
namespace K01
open PySem PySem.Spec PyProof.Rows L2 TL HotExc L2H HotLc
local macro_rules | `(tactic| walk_at "rd") => `(tactic| simp only [start1, wipe, isR, isBool, isInt, isStr, isLst, isTup, tAsg, gName, gSub, tVar, tC, tOp, tUn, tTest, tIfS, tRet, tRetN, tDrop, tB, tAnd, tOr, tNot, tAndV, tOrV, tNotV, tIf, tCB, tCons, tNil, tNext, tCall, tBM, tTup, tLst, rI0, rI, rEq, rNe, scal, forR_eq, forR2_eq, forS_eq, forL_eq, lcL_eq, lcR_eq, lcS_eq, rLenX, rLenS, rMulS, rRepL, rCatL, tPart, tNoPart, CwR.tReplC, rAllK, rInSg, rNinSg, sgn_inj, rAddS, rInSt, tChain, tM1, tM0, rSplitN, rJoinN, exists_eq, rIntI, rIntB, rIntS, rStrI, rAbs, rOrd, rMin, rMax, rIxL, rIxX, rSetL, rAppend, rIxS, rSlS, rSlL, tSl, List.map_cons, List.map_nil, List.replicate_succ, List.replicate_zero, List.length_cons, List.length_nil, Nat.reduceSub, Nat.reduceAdd, Nat.zero_add, Nat.sub_self, List.getElem?_cons_zero, List.getElem?_cons_succ, List.set_cons_zero, List.set_cons_succ, List.append_nil, List.nil_append, List.cons_append, Option.some.injEq, not_true_eq_false, reduceCtorEq, exists_eq_left', exists_eq_left, exists_eq', exists_and_left, exists_and_right, V.int.injEq, V.str.injEq, V.bl.injEq, V.ref.injEq, List.cons.injEq, and_true, true_and, and_assoc, decide_eq_true_eq, Bool.not_eq_true', decide_eq_false_iff_not, ite_true, ite_false, if_true, if_false, Bool.not_true, Bool.not_false, Bool.false_eq_true, eq_self_iff_true, reduceIte, ne_eq, Int.reduceEq, not_false_eq_true])
local macro_rules | `(tactic| walk_at "rt") => `(tactic| try walk_at "rd")
local macro_rules | `(tactic| walk_at "st") => `(tactic| (walk_at "rt"; refine r_seq ?_; walk_at "rt"))
local macro_rules | `(tactic| walk_at "hp") => `(tactic| first | assumption | exact upd_same | (rw [upd_ne (by assumption)]; walk_at "hp"))
local macro_rules | `(tactic| walk_at "ex1") => `(tactic| ((with_reducible refine Exists.intro ?w (And.intro ?hx ?_)); (case hx => first | exact sq_of (by walk_at "hp") | exact .inl (sq_of (by walk_at "hp")) | exact rfl | (show _ = some (HO.lst _); walk_at "hp"))))
local macro_rules | `(tactic| walk_at "ex") => `(tactic| repeat (first | walk_at "ex1" | walk_at "rd"))
abbrev s_law : Stmt := topS 79
theorem sc_law : FnScope ["script", "store", "k", "words", "asks", "low", "high", "near", "word", "ask"] ["script"] (defScope s_law) := ⟨rfl, rfl, rfl, by decide +kernel, rfl, by decide +kernel, by decide +kernel⟩
def spConst : Sp := fun vs H Q _ => vs = [] ∧ ∀ H', Keeps H H' → Q (.bl true) H'
def spLaw (K : PySem.W.Frag) : Sp := fun vs H Q _ => ∃ (a : Addr) (ns : List Int), vs = [.ref a] ∧ SqL K H a (ns.map V.int) ∧ ns.length ≤ 63 ∧ ∀ H', Q (.bl true) H'
/-- a word of the law -/
def Word (v : V) : Prop := TextIn 0 1000000 v
/-- an ask of the law, at r -/
def Ask (H : Hp) (v : V) : Prop := ∃ (r : Addr) (wh : Str) (x : V) (b : Bool) (lo hi : Int), v = .ref r ∧ H r = some (.lst [.str wh, x, .bl b, .int lo, .int hi]) ∧ Thing x b
theorem Ask.but {a : Addr} {H H' : Hp} {v : V} (h : Ask H v) (k : But a H H') (ne : v ≠ .ref a) : Ask H' v := by
  obtain ⟨r, wh, x, b, lo, hi, rfl, hr, t⟩ := h
  exact ⟨r, wh, x, b, lo, hi, rfl, k _ _ (fun e => ne (by rw [e])) hr, t⟩
theorem Ask.keep {H H' : Hp} {v : V} (h : Ask H v) (k : Keeps H H') : Ask H' v := by
  obtain ⟨r, wh, x, b, lo, hi, e, hr, t⟩ := h
  exact ⟨r, wh, x, b, lo, hi, e, k _ _ hr, t⟩
section
variable {P : Program} {w : World} {K : PySem.W.Frag} {mg : Str → Option Value} {base : Heap}
theorem ok_law {f f_store f_anytext f_shuffled f_number f_near f_pick f_tg f_ng f_co : Addr} {fd fd_store fd_anytext fd_shuffled fd_number fd_near fd_pick fd_tg fd_ng fd_co : FuncData} (B : Bi mg) (D : Dn K mg "law" s_law ["script"] f fd)
    (D_store : Dn K mg "_law_store" s_store ["script"] f_store fd_store) (D_anytext : Dn K mg "_law_any_text" s_anytext ["store"] f_anytext fd_anytext) (D_shuffled : Dn K mg "_law_shuffled" s_shuffled ["store", "row"] f_shuffled fd_shuffled)
    (D_number : Dn K mg "_law_number" s_number ["store", "low", "high"] f_number fd_number) (D_near : Dn K mg "_law_near" s_near ["store", "low", "high"] f_near fd_near) (D_pick : Dn K mg "_law_pick" s_pick ["store", "row"] f_pick fd_pick)
    (D_textgood : Dn K mg "_law_text_good" s_textgood ["word"] f_tg fd_tg) (D_numbergood : Dn K mg "_law_number_good" s_numbergood ["word", "thing", "number", "low", "high"] f_ng fd_ng) {s_co : Stmt} (D_constants : Dn K mg "_law_constants" s_co [] f_co fd_co)
    (G_store : FnOk P w K mg base CX0 1 f_store fd_store ["script"] (spStore K)) (G_anytext : FnOk P w K mg base CX0 7 f_anytext fd_anytext ["store"] (spTextIn 0 20000)) (G_shuffled : FnOk P w K mg base CX0 3 f_shuffled fd_shuffled ["store", "row"] (spShuf K))
    (G_number : FnOk P w K mg base CX0 4 f_number fd_number ["store", "low", "high"] spRange) (G_near : FnOk P w K mg base CX0 5 f_near fd_near ["store", "low", "high"] spNear) (G_pickL : FnOk P w K mg base CX0 3 f_pick fd_pick ["store", "row"] spPickL)
    (G_textgood : FnOk P w K mg base CX0 9 f_tg fd_tg ["word"] spTextGood) (G_numbergood : FnOk P w K mg base CX0 9 f_ng fd_ng ["word", "thing", "number", "low", "high"] spNumGood) (G_constants : FnOk P w K mg base CX0 9 f_co fd_co [] spConst) :
    FnOk P w K mg base CX0 10 f fd ["script"] (spLaw K) := by
  refine D.F.ok sc_law (fun vs H Q E h => ?_) (fun cdv A outer s H vs Q E hr h => ?_)
  · obtain ⟨a, ns, rfl, _⟩ := h
    rfl
  · obtain ⟨sa, ns, rfl, hs, hl, q⟩ := h
    refine ⟨_, (pss_cons (ps_set (i := 1) sc_law.nd rfl (.inr rfl) (pe_call G_store (hr.mono (by omega)) (by rfl) D_store.g D_store.F.kp D_store.b .nil pass0 (pa_cons (pv 0) pa_nil)))
      (pss_cons (ps_set (i := 3) sc_law.nd rfl (.inl rfl) (pe_op op_catL (pe_lc (own := [("k", 2)]) (g := gName 2) (tt := tYes) (by rfl) sc_law.nd (pi_range1 (by rfl) B.range (pa_cons pe_int pa_nil)) (blkOk_by (own := [("k", 2)]) (N := ["script", "store", "k", "words", "asks", "low", "high", "near", "word", "ask"]) (sc := defScope s_law) (by decide +kernel)) (fun _ _ _ _ _ => pg_name (i := 2) sc_law.nd rfl (Or.inl rfl)) (fun _ _ _ _ _ => pts_nil) (fun _ _ _ _ _ => (pe_call G_anytext (hr.mono (by omega)) (by rfl) D_anytext.g D_anytext.F.kp D_anytext.b .nil pass0 (pa_cons (pv 1) pa_nil)))) (pe_lst (pa_cons pe_str (pa_cons pe_str (pa_cons pe_str (pa_cons pe_str pa_nil)))))))
      (pss_cons (ps_set (i := 3) sc_law.nd rfl (.inl rfl) (pe_call G_shuffled (hr.mono (by omega)) (by rfl) D_shuffled.g D_shuffled.F.kp D_shuffled.b .nil pass0 (pa_cons (pv 1) (pa_cons (pv 3) pa_nil))))
      (pss_cons (ps_set (i := 4) sc_law.nd rfl (.inl rfl) (pe_lst pa_nil))
      (pss_cons (ps_for PassesOwn.never rfl (pi_range1 (by rfl) B.range (pa_cons pe_int pa_nil)) (pg_name (i := 2) sc_law.nd rfl (.inl rfl)) (pss_cons (ps_set (i := 5) sc_law.nd rfl (.inl rfl) (pe_op op_sub (pe_call G_number (hr.mono (by omega)) (by rfl) D_number.g D_number.F.kp D_number.b .nil pass0 (pa_cons (pv 1) (pa_cons pe_int (pa_cons pe_int pa_nil)))) pe_int))
      (pss_cons (ps_set (i := 6) sc_law.nd rfl (.inl rfl) (pe_op op_sub (pe_op op_add (pv 5) (pe_call G_number (hr.mono (by omega)) (by rfl) D_number.g D_number.F.kp D_number.b .nil pass0 (pa_cons (pv 1) (pa_cons pe_int (pa_cons pe_int pa_nil))))) pe_int))
      (C8.pss_cut (ps_if (pt_cmpR op_gt (pv 2) pe_int (nomark _)) (pss_cons (ps_set (i := 5) sc_law.nd rfl (.inl rfl) (pe_call G_number (hr.mono (by omega)) (by rfl) D_number.g D_number.F.kp D_number.b .nil pass0 (pa_cons (pv 1) (pa_cons (pe_op op_sub pe_int (pe_op op_pow pe_int pe_int)) (pa_cons (pe_op op_sub (pe_op op_pow pe_int pe_int) pe_int) pa_nil)))))
      (pss_one (ps_set (i := 6) sc_law.nd rfl (.inl rfl) (pe_call G_number (hr.mono (by omega)) (by rfl) D_number.g D_number.F.kp D_number.b .nil pass0 (pa_cons (pv 1) (pa_cons (pe_op op_sub pe_int (pe_op op_pow pe_int pe_int)) (pa_cons (pe_op op_sub (pe_op op_pow pe_int pe_int) pe_int) pa_nil))))))) pss_nil)
      (pss_cons (ps_set (i := 7) sc_law.nd rfl (.inl rfl) (pe_call G_near (hr.mono (by omega)) (by rfl) D_near.g D_near.F.kp D_near.b .nil pass0 (pa_cons (pv 1) (pa_cons (pv 5) (pa_cons (pv 6) pa_nil)))))
      (pss_one (ps_expr (pe_bm PySem.F.plainAttrs_list PySem.F.slot_list_append PySem.F.type_list_append mt_append (pv 4) (pa_cons (pe_lst (pa_cons (pe_call G_pickL (hr.mono (by omega)) (by rfl) D_pick.g D_pick.F.kp D_pick.b .nil pass0 (pa_cons (pv 1) (pa_cons (pv 3) pa_nil))) (pa_cons (pe_ix (ix_tupK (K := K)) (pv 7) pe_int (fun _ _ => rfl)) (pa_cons (pe_ix (ix_tupK (K := K)) (pv 7) pe_int (fun _ _ => rfl)) (pa_cons (pv 5) (pa_cons (pv 6) pa_nil)))))) pa_nil)))))))))
      (pss_cons (ps_for PassesOwn.never rfl (pi_range1 (by rfl) B.range (pa_cons pe_int pa_nil)) (pg_name (i := 2) sc_law.nd rfl (.inl rfl)) (pss_cons (ps_for PassesOwn.never rfl (pi_listK (K := K) (pv 3)) (pg_name (i := 8) sc_law.nd rfl (.inl rfl)) (pss_one (ps_if (pt_not (pt_val (pe_call G_textgood (hr.mono (by omega)) (by rfl) D_textgood.g D_textgood.F.kp D_textgood.b .nil pass0 (pa_cons (pv 8) pa_nil)))) (pss_one (ps_ret pe_bl)) pss_nil)))
      (pss_one (ps_for PassesOwn.never rfl (pi_listK (K := K) (pv 4)) (pg_name (i := 9) sc_law.nd rfl (.inl rfl)) (pss_one (ps_if (pt_not (pt_val (pe_call G_numbergood (hr.mono (by omega)) (by rfl) D_numbergood.g D_numbergood.F.kp D_numbergood.b .nil pass0 (pa_cons (pe_ix (ix_listK (K := K)) (pv 9) pe_int (fun _ _ => rfl)) (pa_cons (pe_ix (ix_listK (K := K)) (pv 9) pe_int (fun _ _ => rfl)) (pa_cons (pe_ix (ix_listK (K := K)) (pv 9) pe_int (fun _ _ => rfl)) (pa_cons (pe_ix (ix_listK (K := K)) (pv 9) pe_int (fun _ _ => rfl)) (pa_cons (pe_ix (ix_listK (K := K)) (pv 9) pe_int (fun _ _ => rfl)) pa_nil)))))))) (pss_one (ps_ret pe_bl)) pss_nil))))))
      (pss_one (ps_ret (pe_call0 G_constants (hr.mono (by omega)) (by rfl) D_constants.g D_constants.F.kp D_constants.b .nil pass0))))))))), ?_⟩
    walk_at "st"
    refine ⟨sa, ns, rfl, hs, hl, fun a c H1 same na S1 => ?_⟩
    walk_at "st"
    refine ⟨by decide, by decide, fun pD nD => ?_⟩
    have da := S1.ne1 nD
    have dc := S1.ne2 nD
    refine r_lcR (fun i H' => StoreAt H' a c ∧ ∃ ws : List V, ws.length = i ∧ (∀ v ∈ ws, Word v) ∧ H' pD = some (.lst ws)) (fun x => rfl) ⟨S1.new nD, [], rfl, by simp, upd_same⟩ ?_ ?_
    · rintro i H2 hi ⟨S2, ws, hl, hw, hD⟩ N k
      have hi : i < 6 := hi
      walk_at "rt"
      refine ⟨a, c, rfl, S2, fun v H3 S3 b3 hv => k _ _ _ (b3 pD _ da hD) (size_ok (by omega)) ⟨S3.put da dc, ws ++ [v], by rw [List.length_append, hl]; rfl, fun x hx => ?_, upd_same⟩⟩
      obtain ⟨z, rfl, z0, z1⟩ := hv
      cases List.mem_append.mp hx with
      | inl h => exact hw x h
      | inr h =>
        rw [List.mem_singleton.mp h]
        exact ⟨z, rfl, Nat.zero_le _, by omega⟩
    rintro H2 ⟨S2, ws, hl, hw, hD⟩
    have hl : ws.length = 6 := hl
    refine ⟨by decide, fun q1 nq1 => ⟨ws, (upd_ne (kp_ne hD nq1)).trans hD, _, upd_same, line_of (by rw [hl]; decide), fun q2 nq2 => ?_⟩⟩
    walk_at "st"
    refine ⟨a, c, q2, _, rfl, (S2.new nq1).new nq2, upd_same, (S2.new nq1).ne1 nq2, by rw [List.length_append, hl]; decide, fun pW ys H3 S3 b3 nW hW perm => ?_⟩
    have hy : ∀ v ∈ ys, Word v := fun v hv => by
      rcases List.mem_append.mp (perm.mem_iff.mp hv) with h | h
      · exact hw v h
      · exact lits_in (["dark", "light", "d", "l"].map Str.ofString) (by decide +kernel) h
    have ly : ys.length = 10 := by rw [perm.length_eq, List.length_append, hl]; rfl
    walk_at "st"
    refine ⟨by decide, fun pA nA => ?_⟩
    walk_at "st"
    refine ⟨by decide, by decide, ?_⟩
    have wa : pW ≠ a := (S2.new nq1 |>.new nq2).ne1 nW
    have wA : pW ≠ pA := kp_ne hW nA
    refine r_range (fun i σ H' => (∃ x2 x5 x6 x7 x8 x9 : Option V, σ = [some (.ref sa), some (.ref a), x2, some (.ref pW), some (.ref pA), x5, x6, x7, x8, x9]) ∧ StoreAt H' a c ∧ H' pW = some (.lst ys) ∧ ∃ as : List V, as.length = i ∧ H' pA = some (.lst as) ∧ ∀ v ∈ as, Ask H' v ∧ v ≠ .ref a ∧ v ≠ .ref pA)
      ⟨⟨_, _, _, _, _, _, rfl⟩, S3.new nA, (upd_ne wA).trans hW, [], rfl, upd_same, by simp⟩ ?_ ?_
    · rintro i σ H4 hi ⟨⟨x2, x5, x6, x7, x8, x9, rfl⟩, S4, hW4, as, hla, hA, hask⟩ N k
      walk_at "st"
      have cp : CPow 10 20 := ⟨by decide, by decide, by decide⟩
      have e20 : (10 : Int) ^ Int.toNat 20 = 10 ^ 20 := rfl
      have aa : pA ≠ a := S3.ne1 nA
      refine ⟨a, c, 0, 12, rfl, S4, by decide, by decide, fun v H5 S5 b5 ⟨lo, e, l0, l1⟩ => ?_⟩
      subst e
      walk_at "st"
      refine ⟨a, c, 0, 9, rfl, S5, by decide, by decide, fun v H6 S6 b6 ⟨hi', e, h0, h1⟩ => ?_⟩
      subst e
      walk_at "rt"
      have b46 := b5.trans b6
      refine r_cut (fun σ H' => (∃ (x7 x8 x9 : Option V) (lo hi : Int), σ = [some (.ref sa), some (.ref a), some (.int (0 + i)), some (.ref pW), some (.ref pA), some (.int lo), some (.int hi), x7, x8, x9] ∧ -(10 ^ 21) ≤ lo ∧ lo ≤ 10 ^ 21 ∧ -(10 ^ 21) ≤ hi ∧ hi ≤ 10 ^ 21) ∧ StoreAt H' a c ∧ But a H4 H') (fun N1 kN => ?_) ?_
      · walk_at "rt"
        refine ite2 (fun _ => ?_) (fun _ => kN _ _ ⟨⟨_, _, _, _, _, rfl, by omega, by omega, by omega, by omega⟩, S6, b46⟩)
        walk_at "st"
        refine ⟨cp, cp, a, c, _, _, rfl, S6, by rw [e20]; decide, by rw [e20]; decide, fun v H7 S7 b7 ⟨lo2, e, m0, m1⟩ => ?_⟩
        subst e
        walk_at "rt"
        refine ⟨cp, cp, a, c, _, _, rfl, S7, by rw [e20]; decide, by rw [e20]; decide, fun v H8 S8 b8 ⟨hi2, e, g0, g1⟩ => ?_⟩
        subst e
        rw [e20] at m0 m1 g0 g1
        walk_at "rt"
        exact kN _ _ ⟨⟨_, _, _, lo2, hi2, rfl, by omega, by omega, by omega, by omega⟩, S8, (b46.trans b7).trans b8⟩
      · rintro σ H7 ⟨⟨x7, x8, x9, lo, hi, rfl, c0, c1, c2, c3⟩, S7, b7⟩
        walk_at "st"
        refine ⟨a, c, lo, hi, rfl, S7, c0, c1, c2, c3, fun pn x b H8 S8 b8 hpn th => ?_⟩
        walk_at "rt"
        have hA8 : H8 pA = some (.lst as) := b8 pA _ aa (b7 pA _ aa hA)
        have hW8 : H8 pW = some (.lst ys) := b8 pW _ wa (b7 pW _ wa hW4)
        have na' : pn ≠ a := fun z => by
          obtain ⟨_, _, _, _, _, h, _⟩ := S8.ex
          rw [← z, hpn] at h
          cases h
        refine ⟨.inl ⟨rfl, _, sq_of hA8⟩, a, c, pW, ys, rfl, S8, hW8, wa, (fun e => by rw [e] at ly; cases ly), by omega, fun v H9 S9 b9 hv => ?_⟩
        obtain ⟨wh, rfl, _, _⟩ := hy v hv
        have hp9 : SqT K H9 pn [x, .bl b] := .inl (.inl (b9 pn _ na' hpn))
        have hA9 := b9 pA _ aa hA8
        have hW9 := b9 pW _ wa hW8
        refine ⟨pn, _, 0, _, rfl, rfl, hp9, rfl, pn, _, 1, _, rfl, rfl, hp9, rfl, by decide, fun r nr => ⟨as, (upd_ne (kp_ne hA9 nr)).trans hA9, size_ok (by omega), k _ _ ⟨⟨_, _, _, _, _, _, rfl⟩, (S9.new nr).put aa (S3.ne2 nA), ?_, as ++ [.ref r], ?_, upd_same, ?_⟩⟩⟩
        · exact (upd_ne wA).trans ((upd_ne (kp_ne hW9 nr)).trans hW9)
        · rw [List.length_append, hla]
          rfl
        · intro v hv
          cases List.mem_append.mp hv with
          | inl h =>
            obtain ⟨h1, h2, h3⟩ := hask v h
            refine ⟨?_, h2, h3⟩
            have k9 := h1.but ((b7.trans b8).trans b9) h2
            exact (k9.keep (But0.new nr)).but (a := pA) (fun p o ne e => (upd_ne ne).trans e) h3
          | inr h =>
            rw [List.mem_singleton.mp h]
            have nrA : r ≠ pA := (kp_ne hA9 nr).symm
            exact ⟨⟨r, wh, x, b, lo, hi, rfl, (upd_ne nrA).trans upd_same, th⟩, fun e => S9.ne1 nr (V.ref.inj e), fun e => nrA (V.ref.inj e)⟩
    · rintro σ H4 ⟨⟨x2, x5, x6, x7, x8, x9, rfl⟩, S4, hW4, as, hla, hA, hask⟩
      walk_at "st"
      refine ⟨by decide, by decide, ?_⟩
      refine r_range (fun i σ H' => (∃ x2 x5 x6 x7 x8 x9 : Option V, σ = [some (.ref sa), some (.ref a), x2, some (.ref pW), some (.ref pA), x5, x6, x7, x8, x9]) ∧ H' pW = some (.lst ys) ∧ H' pA = some (.lst as) ∧ ∀ v ∈ as, Ask H' v) ⟨⟨_, _, _, _, _, _, rfl⟩, hW4, hA, fun v h => (hask v h).1⟩ ?_ ?_
      · rintro j σ H5 hj ⟨⟨x2, x5, x6, x7, x8, x9, rfl⟩, w5, a5, k5⟩ N k
        walk_at "st"
        refine ⟨⟨_, sq_of w5⟩, ?_⟩
        refine r_list (K := K) (a := pW) ys (fun i σ H' => (∃ x2 x5 x6 x7 x8 x9 : Option V, σ = [some (.ref sa), some (.ref a), x2, some (.ref pW), some (.ref pA), x5, x6, x7, x8, x9]) ∧ H' pW = some (.lst ys) ∧ H' pA = some (.lst as) ∧ ∀ v ∈ as, Ask H' v) ⟨⟨_, _, _, _, _, _, rfl⟩, w5, a5, k5⟩ (fun i σ H' _ h => sq_of h.2.1) ?_ ?_
        · rintro i v σ H6 hv ⟨⟨x2, x5, x6, x7, x8, x9, rfl⟩, w6, a6, k6⟩ N2 kk
          obtain ⟨z, rfl, _, z1⟩ := hy v (List.mem_of_getElem? hv)
          walk_at "rt"
          exact ⟨z, rfl, z1, fun H7 k7 => ⟨true, rfl, ite2 (fun e => by cases e) (fun _ => kk _ _ ⟨⟨_, _, _, _, _, _, rfl⟩, k7 _ _ w6, k7 _ _ a6, fun v hv => (k6 v hv).keep k7⟩)⟩⟩
        · rintro σ H6 ⟨⟨x2, x5, x6, x7, x8, x9, rfl⟩, w6, a6, k6⟩
          walk_at "rt"
          refine ⟨⟨_, sq_of a6⟩, ?_⟩
          refine r_list (K := K) (a := pA) as (fun i σ H' => (∃ x2 x5 x6 x7 x8 x9 : Option V, σ = [some (.ref sa), some (.ref a), x2, some (.ref pW), some (.ref pA), x5, x6, x7, x8, x9]) ∧ H' pW = some (.lst ys) ∧ H' pA = some (.lst as) ∧ ∀ v ∈ as, Ask H' v) ⟨⟨_, _, _, _, _, _, rfl⟩, w6, a6, k6⟩ (fun i σ H' _ h => sq_of h.2.2.1) ?_ ?_
          · rintro i v σ H7 hv ⟨⟨x2, x5, x6, x7, x8, x9, rfl⟩, w7, a7, k7⟩ N2 kk
            obtain ⟨r, wh, x, b, lo, hi, rfl, hr, th⟩ := k7 v (List.mem_of_getElem? hv)
            walk_at "rt"
            refine ⟨_, sq_of hr, _, rfl, _, sq_of hr, _, rfl, _, sq_of hr, _, rfl, _, sq_of hr, _, rfl, _, sq_of hr, _, rfl, ?_⟩
            exact ⟨wh, x, b, lo, hi, rfl, th, fun H8 k8 => ⟨true, rfl, ite2 (fun e => by cases e) (fun _ => kk _ _ ⟨⟨_, _, _, _, _, _, rfl⟩, k8 _ _ w7, k8 _ _ a7, fun v hv => (k7 v hv).keep k8⟩)⟩⟩
          · rintro σ H7 ⟨⟨x2, x5, x6, x7, x8, x9, rfl⟩, w7, a7, k7⟩
            exact k _ _ ⟨⟨_, _, _, _, _, _, rfl⟩, w7, a7, k7⟩
      · rintro σ H5 ⟨⟨x2, x5, x6, x7, x8, x9, rfl⟩, w5, a5, k5⟩
        walk_at "rt"
        exact ⟨rfl, fun H6 _ => q H6⟩
end
end K01
/-! same, of data some of whose tuples are the module's own -/
namespace K01.KX
open PySem PySem.Spec PyProof.Rows L2 K01
def KTup (K : PySem.W.Frag) (a : Addr) (xs : List V) : Prop := ∃ (o : Obj) (its : Array Value) (n : Nat), K.lookup a = some o ∧ o.cls = .type "tuple" ∧ o.data = .seq its n ∧ its.size ≤ sizeLine ∧ Vals xs its.toList
mutual
/-- data in H, some of whose tuples are the module's -/
def AtX (K : PySem.W.Frag) (H : Hp) : Dat → V → Prop
  | .non, v => v = .non
  | .bl b, v => v = .bl b
  | .int i, v => v = .int i
  | .str s, v => v = .str s
  | .lst l, v => ∃ a xs, v = .ref a ∧ H a = some (.lst xs) ∧ xs.length ≤ 1000000 ∧ AtXL K H l xs
  | .tup l, v => ∃ a xs, v = .ref a ∧ (H a = some (.tup xs) ∨ KTup K a xs) ∧ xs.length ≤ 1000000 ∧ AtXL K H l xs
def AtXL (K : PySem.W.Frag) (H : Hp) : List Dat → List V → Prop
  | [], xs => xs = []
  | d :: l, xs => ∃ v r, xs = v :: r ∧ AtX K H d v ∧ AtXL K H l r
end
theorem AtXL.length {K : PySem.W.Frag} {H : Hp} : ∀ (l : List Dat) (xs : List V), AtXL K H l xs → xs.length = l.length
  | [], _, h => by rw [show _ = [] from h]; rfl
  | d :: l, _, ⟨v, r, e, h1, h2⟩ => by rw [e, List.length_cons, List.length_cons, AtXL.length l r h2]
theorem AtXL.get {K : PySem.W.Frag} {H : Hp} : ∀ (l : List Dat) (xs : List V) (i : Nat) (d : Dat), AtXL K H l xs → l[i]? = some d → ∃ v, xs[i]? = some v ∧ AtX K H d v
  | [], _, _, _, _, h => by simp at h
  | d :: l, _, 0, e, ⟨v, r, ex, h1, h2⟩, h => by
    subst ex
    cases h
    exact ⟨v, rfl, h1⟩
  | d :: l, _, i + 1, e, ⟨v, r, ex, h1, h2⟩, h => by
    subst ex
    exact AtXL.get l r i e h2 h
theorem tup_of {K : PySem.W.Frag} {H : Hp} {a : Addr} {xs : List V} (h : H a = some (.tup xs) ∨ KTup K a xs) : SqT K H a xs := h.elim (fun h => .inl (.inl h)) .inr
theorem tyx {K : PySem.W.Frag} {H : Hp} : ∀ {d : Dat} {v : V}, AtX K H d v → TyX K H v (.type (tyOf d))
  | .non, _, h => by rw [show _ = V.non from h]; exact .base .non
  | .bl b, _, h => by rw [show _ = V.bl b from h]; exact .base (.bl b)
  | .int b, _, h => by rw [show _ = V.int b from h]; exact .base (.int b)
  | .str b, _, h => by rw [show _ = V.str b from h]; exact .base (.str b)
  | .lst l, _, ⟨a, xs, ea, hx, _⟩ => by subst ea; exact .base (.lst hx)
  | .tup l, _, ⟨a, xs, ea, hx, _⟩ => by
    subst ea
    rcases hx with h | ⟨o, its, n, lk, hc, _⟩
    · exact .base (.tup h)
    · exact .kTuple lk hc
def isR (K : PySem.W.Frag) (T : String) (p : Dat → Bool) : List V → Hp → VK → Prop := fun xs H Q => ∃ x, xs = [x, .ty T] ∧ ∃ d, AtX K H d x ∧ Q (.bl (p d)) H
theorem call_is {X : Cx} {K : PySem.W.Frag} (hK : X.K = K) (T : String) (p : Dat → Bool) (h : ∀ d, kitB (tyOf d) T = some (p d)) : CallR X (.builtin "isinstance") (isR K T p) := callR_mono call_isi fun xs H Q ⟨x, e, d, ha, q⟩ =>
  ⟨x, .ty T, _, _, p d, e, .ty T, hK ▸ tyx ha, kit_ty (h d), q⟩
theorem call_is_bool {X : Cx} {K : PySem.W.Frag} (hK : X.K = K := by rfl) : CallR X (.builtin "isinstance") (isR K "bool" isBool) := call_is hK _ _ fun d => by cases d <;> (simp only [tyOf, isBool]; decide +kernel)
theorem call_is_int {X : Cx} {K : PySem.W.Frag} (hK : X.K = K := by rfl) : CallR X (.builtin "isinstance") (isR K "int" isInt) := call_is hK _ _ fun d => by cases d <;> (simp only [tyOf, isInt]; decide +kernel)
theorem call_is_str {X : Cx} {K : PySem.W.Frag} (hK : X.K = K := by rfl) : CallR X (.builtin "isinstance") (isR K "str" isStr) := call_is hK _ _ fun d => by cases d <;> (simp only [tyOf, isStr]; decide +kernel)
theorem call_is_dict {X : Cx} {K : PySem.W.Frag} (hK : X.K = K := by rfl) : CallR X (.builtin "isinstance") (isR K "dict" fun _ => false) := call_is hK _ _ fun d => by cases d <;> (simp only [tyOf]; decide +kernel)
theorem call_is_list {X : Cx} {K : PySem.W.Frag} (hK : X.K = K := by rfl) : CallR X (.builtin "isinstance") (isR K "list" isLst) := call_is hK _ _ fun d => by cases d <;> (simp only [tyOf, isLst]; decide +kernel)
theorem call_is_tuple {X : Cx} {K : PySem.W.Frag} (hK : X.K = K := by rfl) : CallR X (.builtin "isinstance") (isR K "tuple" isTup) := call_is hK _ _ fun d => by cases d <;> (simp only [tyOf, isTup]; decide +kernel)
local macro_rules | `(tactic| walk_at "rd") => `(tactic| simp only [start1, wipe, isR, isBool, isInt, isStr, isLst, isTup, tAsg, gName, gSub, tVar, tC, tOp, tUn, tTest, tIfS, tRet, tRetN, tDrop, tB, tAnd, tOr, tNot, tAndV, tOrV, tNotV, tIf, tCB, tCons, tNil, tNext, tCall, tBM, tTup, tLst, rI0, rI, rEq, rNe, scal, forR_eq, forR2_eq, forS_eq, forL_eq, lcL_eq, lcR_eq, lcS_eq, rLenX, rLenS, rMulS, rRepL, rCatL, tPart, tNoPart, CwR.tReplC, rAllK, rInSg, rNinSg, sgn_inj, rAddS, rInSt, tChain, tM1, tM0, rSplitN, rJoinN, exists_eq, rIntI, rIntB, rIntS, rStrI, rAbs, rOrd, rMin, rMax, rIxL, rIxX, rSetL, rAppend, rIxS, rSlS, rSlL, tSl, List.map_cons, List.map_nil, List.replicate_succ, List.replicate_zero, List.length_cons, List.length_nil, Nat.reduceSub, Nat.reduceAdd, Nat.zero_add, Nat.sub_self, List.getElem?_cons_zero, List.getElem?_cons_succ, List.set_cons_zero, List.set_cons_succ, List.append_nil, List.nil_append, List.cons_append, Option.some.injEq, not_true_eq_false, reduceCtorEq, exists_eq_left', exists_eq_left, exists_eq', exists_and_left, exists_and_right, V.int.injEq, V.str.injEq, V.bl.injEq, V.ref.injEq, List.cons.injEq, and_true, true_and, and_assoc, decide_eq_true_eq, Bool.not_eq_true', decide_eq_false_iff_not, ite_true, ite_false, if_true, if_false, Bool.not_true, Bool.not_false, Bool.false_eq_true, eq_self_iff_true, reduceIte, ne_eq, Int.reduceEq, not_false_eq_true])
local macro_rules | `(tactic| walk_at "rt") => `(tactic| try walk_at "rd")
local macro_rules | `(tactic| walk_at "st") => `(tactic| (walk_at "rt"; refine r_seq ?_; walk_at "rt"))
local macro_rules | `(tactic| walk_at "hp") => `(tactic| first | assumption | exact upd_same | (rw [upd_ne (by assumption)]; walk_at "hp"))
local macro_rules | `(tactic| walk_at "ex1") => `(tactic| ((with_reducible refine Exists.intro ?w (And.intro ?hx ?_)); (case hx => first | exact sq_of (by walk_at "hp") | exact .inl (sq_of (by walk_at "hp")) | exact rfl | (show _ = some (HO.lst _); walk_at "hp"))))
local macro_rules | `(tactic| walk_at "ex") => `(tactic| repeat (first | walk_at "ex1" | walk_at "rd"))
def spSame (K : PySem.W.Frag) (n : Nat) : Sp := fun vs H Q _ => ∃ (x y : V) (d e : Dat), vs = [x, y] ∧ AtX K H d x ∧ AtX K H e y ∧ d.dep ≤ n ∧ Q (.bl (same d e)) H
def spRows (K : PySem.W.Frag) : Nat → Sp
  | 0 => fun _ _ _ _ => False
  | n + 1 => fun vs H Q _ => ∃ (x y : V) (l m : List Dat), vs = [x, y] ∧ ((AtX K H (.lst l) x ∧ AtX K H (.lst m) y) ∨ (AtX K H (.tup l) x ∧ AtX K H (.tup m) y)) ∧ depL l ≤ n ∧ Q (.bl (sameL l m)) H
section
variable {P : Program} {w : World} {K : PySem.W.Frag} {mg : Str → Option Value} {base : Heap}
theorem ok_same {f fR : Addr} {fd fdR : FuncData} (B : Bi mg) (D : Dn K mg "_law_same" s_same ["one", "two"] f fd) (D_samerows : Dn K mg "_law_same_rows" s_samerows ["one", "two"] fR fdR) (n k : Nat)
    (G_samerows : FnOk P w K mg base CX0 (k + 1) fR fdR ["one", "two"] (spRows K n)) : FnOk P w K mg base CX0 (k + 2) f fd ["one", "two"] (spSame K n) := by
  refine D.F.ok sc_same (fun vs H Q E h => ?_) (fun cdv A outer s H vs Q E hr h => ?_)
  · obtain ⟨x, y, d, e, rfl, _⟩ := h
    rfl
  · obtain ⟨x, y, d, e, rfl, hd', he', hn, q⟩ := h
    have hr1 : Room (k + 1) _ := hr
    have hd := hd'
    have he := he'
    refine ⟨_, (pss_cons (ps_if (PW.pt (pw_or (pt_cmpR op_isN (pv 0) pe_non (nomark _)) (pw_or1 (pt_cmpR op_isN (pv 1) pe_non (nomark _))))) (pss_one (ps_ret (pe_and (pe_cmpR op_isN (pv 0) pe_non (nomark _)) (pe_one (pe_cmpR op_isN (pv 1) pe_non (nomark _)))))) pss_nil)
      (pss_cons (ps_if (PW.pt (pw_or (pt_val (pe_callB (call_is_bool (K := K)) (by rfl) B.isinstance (by decide +kernel) (pa_cons (pv 0) (pa_cons (pe_bltn (v := .ty "bool") (by rfl) B.bool_ (by decide +kernel) rfl) pa_nil)))) (pw_or1 (pt_val (pe_callB (call_is_bool (K := K)) (by rfl) B.isinstance (by decide +kernel) (pa_cons (pv 1) (pa_cons (pe_bltn (v := .ty "bool") (by rfl) B.bool_ (by decide +kernel) rfl) pa_nil))))))) (pss_one (ps_ret (pe_and (pe_callB (call_is_bool (K := K)) (by rfl) B.isinstance (by decide +kernel) (pa_cons (pv 0) (pa_cons (pe_bltn (v := .ty "bool") (by rfl) B.bool_ (by decide +kernel) rfl) pa_nil))) (pe_and (pe_callB (call_is_bool (K := K)) (by rfl) B.isinstance (by decide +kernel) (pa_cons (pv 1) (pa_cons (pe_bltn (v := .ty "bool") (by rfl) B.bool_ (by decide +kernel) rfl) pa_nil))) (pe_one (pe_cmpR op_eq (pv 0) (pv 1) (nomark _))))))) pss_nil)
      (pss_cons (ps_if (PW.pt (pw_or (pt_val (pe_callB (call_is_int (K := K)) (by rfl) B.isinstance (by decide +kernel) (pa_cons (pv 0) (pa_cons (pe_bltn (v := .ty "int") (by rfl) B.int_ (by decide +kernel) rfl) pa_nil)))) (pw_or1 (pt_val (pe_callB (call_is_int (K := K)) (by rfl) B.isinstance (by decide +kernel) (pa_cons (pv 1) (pa_cons (pe_bltn (v := .ty "int") (by rfl) B.int_ (by decide +kernel) rfl) pa_nil))))))) (pss_one (ps_ret (pe_and (pe_callB (call_is_int (K := K)) (by rfl) B.isinstance (by decide +kernel) (pa_cons (pv 0) (pa_cons (pe_bltn (v := .ty "int") (by rfl) B.int_ (by decide +kernel) rfl) pa_nil))) (pe_and (pe_callB (call_is_int (K := K)) (by rfl) B.isinstance (by decide +kernel) (pa_cons (pv 1) (pa_cons (pe_bltn (v := .ty "int") (by rfl) B.int_ (by decide +kernel) rfl) pa_nil))) (pe_one (pe_cmpR op_eq (pv 0) (pv 1) (nomark _))))))) pss_nil)
      (pss_cons (ps_if (PW.pt (pw_or (pt_val (pe_callB (call_is_str (K := K)) (by rfl) B.isinstance (by decide +kernel) (pa_cons (pv 0) (pa_cons (pe_bltn (v := .ty "str") (by rfl) B.str_ (by decide +kernel) rfl) pa_nil)))) (pw_or1 (pt_val (pe_callB (call_is_str (K := K)) (by rfl) B.isinstance (by decide +kernel) (pa_cons (pv 1) (pa_cons (pe_bltn (v := .ty "str") (by rfl) B.str_ (by decide +kernel) rfl) pa_nil))))))) (pss_one (ps_ret (pe_and (pe_callB (call_is_str (K := K)) (by rfl) B.isinstance (by decide +kernel) (pa_cons (pv 0) (pa_cons (pe_bltn (v := .ty "str") (by rfl) B.str_ (by decide +kernel) rfl) pa_nil))) (pe_and (pe_callB (call_is_str (K := K)) (by rfl) B.isinstance (by decide +kernel) (pa_cons (pv 1) (pa_cons (pe_bltn (v := .ty "str") (by rfl) B.str_ (by decide +kernel) rfl) pa_nil))) (pe_one (pe_cmpR op_eq (pv 0) (pv 1) (nomark _))))))) pss_nil)
      (pss_cons (ps_if (PW.pt (pw_or (pt_val (pe_callB (call_is_dict (K := K)) (by rfl) B.isinstance (by decide +kernel) (pa_cons (pv 0) (pa_cons (pe_bltn (v := .ty "dict") (by rfl) B.dict_ (by decide +kernel) rfl) pa_nil)))) (pw_or1 (pt_val (pe_callB (call_is_dict (K := K)) (by rfl) B.isinstance (by decide +kernel) (pa_cons (pv 1) (pa_cons (pe_bltn (v := .ty "dict") (by rfl) B.dict_ (by decide +kernel) rfl) pa_nil))))))) (pss_one ps_never) pss_nil)
      (pss_cons (ps_if (PW.pt (pw_or (PW.pt (pw_and (pt_val (pe_callB (call_is_list (K := K)) (by rfl) B.isinstance (by decide +kernel) (pa_cons (pv 0) (pa_cons (pe_bltn (v := .ty "list") (by rfl) B.list_ (by decide +kernel) rfl) pa_nil)))) (pw_and1 (pt_val (pe_callB (call_is_list (K := K)) (by rfl) B.isinstance (by decide +kernel) (pa_cons (pv 1) (pa_cons (pe_bltn (v := .ty "list") (by rfl) B.list_ (by decide +kernel) rfl) pa_nil))))))) (pw_or1 (PW.pt (pw_and (pt_val (pe_callB (call_is_tuple (K := K)) (by rfl) B.isinstance (by decide +kernel) (pa_cons (pv 0) (pa_cons (pe_bltn (v := .ty "tuple") (by rfl) B.tuple_ (by decide +kernel) rfl) pa_nil)))) (pw_and1 (pt_val (pe_callB (call_is_tuple (K := K)) (by rfl) B.isinstance (by decide +kernel) (pa_cons (pv 1) (pa_cons (pe_bltn (v := .ty "tuple") (by rfl) B.tuple_ (by decide +kernel) rfl) pa_nil)))))))))) (pss_one (ps_ret (pe_call G_samerows (hr.mono (by omega)) (by rfl) D_samerows.g D_samerows.F.kp D_samerows.b .nil pass0 (pa_cons (pv 0) (pa_cons (pv 1) pa_nil))))) pss_nil)
      (pss_one (ps_ret pe_bl)))))))), ?_⟩
    rcases d with _ | b | i | z | l | l <;> rcases e with _ | b' | i' | z' | l' | l'
    all_goals simp only [AtX] at hd he
    all_goals (first | subst hd | (obtain ⟨a, xs, rfl, hd⟩ := hd))
    all_goals (first | subst he | (obtain ⟨a', ys, rfl, he⟩ := he))
    all_goals (repeat (first | (with_reducible refine Exists.intro _ (And.intro hd' ?_)) | (with_reducible refine Exists.intro _ (And.intro he' ?_)) | (with_reducible refine And.intro (Exists.intro _ hd') ?_) | (with_reducible refine And.intro (Exists.intro _ he') ?_) | simp only [isR, isBool, isInt, isStr, isLst, isTup, reduceCtorEq, decide_false, decide_true, Bool.or_true, Bool.and_true, Bool.false_and, Bool.true_and] | walk_at "rd" | (with_reducible refine r_seq ?_)))
    all_goals (first | exact q | (simp only [same, reduceCtorEq] at q; exact q) | skip)
    · cases n with
      | zero => rw [Dat.dep] at hn; omega
      | succ n => exact ⟨_, _, l, l', rfl, .inl ⟨hd', he'⟩, by rw [Dat.dep] at hn; omega, by rw [same] at q; exact q⟩
    · cases n with
      | zero => rw [Dat.dep] at hn; omega
      | succ n => exact ⟨_, _, l, l', rfl, .inr ⟨hd', he'⟩, by rw [Dat.dep] at hn; omega, by rw [same] at q; exact q⟩
theorem ok_rows0 {fR : Addr} {fdR : FuncData} (D : Dn K mg "_law_same_rows" s_samerows ["one", "two"] fR fdR) : FnOk P w K mg base CX0 1 fR fdR ["one", "two"] (spRows K 0) :=
  D.F.ok sc_samerows (fun vs H Q E h => h.elim) (fun cdv A outer s H vs Q E hr h => h.elim)
theorem ok_rows {f fR : Addr} {fd fdR : FuncData} (B : Bi mg) (D_same : Dn K mg "_law_same" s_same ["one", "two"] f fd) (D : Dn K mg "_law_same_rows" s_samerows ["one", "two"] fR fdR) (n k : Nat)
    (G_same : FnOk P w K mg base CX0 (k + 1) f fd ["one", "two"] (spSame K n)) : FnOk P w K mg base CX0 (k + 2) fR fdR ["one", "two"] (spRows K (n + 1)) := by
  refine D.F.ok sc_samerows (fun vs H Q E h => ?_) (fun cdv A outer s H vs Q E hr h => ?_)
  · obtain ⟨x, y, l, m, rfl, _⟩ := h
    rfl
  · obtain ⟨x, y, l, m, rfl, hx, hn, q⟩ := h
    obtain ⟨a, xs, b, ys, rfl, rfl, ha, hb, hla, hlb, La, Lb⟩ : ∃ a xs b ys, x = .ref a ∧ y = .ref b ∧ SqX K H a xs ∧ SqX K H b ys ∧ xs.length ≤ 1000000 ∧ ys.length ≤ 1000000 ∧ AtXL K H l xs ∧ AtXL K H m ys := by
      rcases hx with ⟨⟨a, xs, e, h1, h2, h3⟩, b, ys, e', h1', h2', h3'⟩ | ⟨⟨a, xs, e, h1, h2, h3⟩, b, ys, e', h1', h2', h3'⟩
      · exact ⟨a, xs, b, ys, e, e', .inl (sq_of h1), .inl (sq_of h1'), h2, h2', h3, h3'⟩
      · exact ⟨a, xs, b, ys, e, e', .inr (tup_of h1), .inr (tup_of h1'), h2, h2', h3, h3'⟩
    have ela := La.length
    have elb := Lb.length
    refine ⟨_, (pss_cons (ps_if (pt_cmpR op_ne (pe_callB (call_lenXK (K := K)) (by rfl) B.len PySem.boot_len (pa_cons (pv 0) pa_nil)) (pe_callB (call_lenXK (K := K)) (by rfl) B.len PySem.boot_len (pa_cons (pv 1) pa_nil)) (nomark _)) (pss_one (ps_ret pe_bl)) pss_nil)
      (pss_cons (ps_for PassesOwn.never rfl (pi_range1 (by rfl) B.range (pa_cons (pe_callB (call_lenXK (K := K)) (by rfl) B.len PySem.boot_len (pa_cons (pv 0) pa_nil)) pa_nil)) (pg_name (i := 2) sc_samerows.nd rfl (.inl rfl)) (pss_one (ps_if (pt_not (pt_val (pe_call G_same (hr.mono (by omega)) (by rfl) D_same.g D_same.F.kp D_same.b .nil pass0 (pa_cons (pe_ix (ix_sxK (K := K)) (pv 0) (pv 2) (fun _ _ => rfl)) (pa_cons (pe_ix (ix_sxK (K := K)) (pv 1) (pv 2) (fun _ _ => rfl)) pa_nil))))) (pss_one (ps_ret pe_bl)) pss_nil)))
      (pss_one (ps_ret pe_bl)))), ?_⟩
    walk_at "st"
    refine ⟨_, ha, _, hb, ite2 (fun hne => ?_) (fun heq => ?_)⟩
    · have hs : sameL l m = false := by
        cases e : sameL l m with
        | false => rfl
        | true => exact absurd (sameL_len l m e) (by omega)
      rw [hs] at q
      exact q
    walk_at "st"
    refine ⟨_, ha, by omega, by omega, ?_⟩
    refine r_range (fun i σ H' => (∃ x : Option V, σ = [some (.ref a), some (.ref b), x]) ∧ H' = H ∧ ∀ (j : Nat) (d e : Dat), j < i → l[j]? = some d → m[j]? = some e → same d e = true) ⟨⟨_, rfl⟩, rfl, fun j _ _ h => absurd h (Nat.not_lt_zero _)⟩ ?_ ?_
    · rintro i σ H' hi ⟨⟨x, rfl⟩, rfl, hall⟩ N k
      have hi' : i < xs.length := by omega
      obtain ⟨d, hd⟩ : ∃ d, l[i]? = some d := ⟨_, List.getElem?_eq_getElem (by omega)⟩
      obtain ⟨e, he⟩ : ∃ e, m[i]? = some e := ⟨_, List.getElem?_eq_getElem (by omega)⟩
      obtain ⟨v, hv, av⟩ := AtXL.get l xs i d La hd
      obtain ⟨u, hu, au⟩ := AtXL.get m ys i e Lb he
      have a1 : atI xs (0 + (i : Int)) = some v := by rw [Int.zero_add]; exact atI_nat hv
      have a2 : atI ys (0 + (i : Int)) = some u := by rw [Int.zero_add]; exact atI_nat hu
      walk_at "rd"
      refine ⟨_, ha, _, a1, _, hb, _, a2, ?_⟩
      refine ⟨v, u, d, e, rfl, av, au, Nat.le_trans (dep_get l i d hd) hn, ?_⟩
      walk_at "rd"
      refine ite2 (fun hf => ?_) (fun ht => k _ _ ⟨⟨_, rfl⟩, rfl, fun j d' e' hj h1 h2 => ?_⟩)
      · rw [sameL_at l m i d e hd he hf] at q
        exact q
      · by_cases hji : j = i
        · subst hji
          rw [hd] at h1
          rw [he] at h2
          cases h1
          cases h2
          cases e : same d e with
          | true => rfl
          | false => exact absurd e ht
        · exact hall j d' e' (by omega) h1 h2
    · rintro σ H' ⟨⟨x, rfl⟩, rfl, hall⟩
      walk_at "rd"
      have hs : sameL l m = true := sameL_all l m (by omega) fun i d e h1 h2 => hall i d e (by have := lt_of_get h1; omega) h1 h2
      rw [hs] at q
      exact q
theorem same_all {f fR : Addr} {fd fdR : FuncData} (B : Bi mg) (D : Dn K mg "_law_same" s_same ["one", "two"] f fd) (DR : Dn K mg "_law_same_rows" s_samerows ["one", "two"] fR fdR) : ∀ n : Nat, FnOk P w K mg base CX0 (2 * n + 2) f fd ["one", "two"] (spSame K n)
  | 0 => ok_same B D DR 0 0 (ok_rows0 DR)
  | n + 1 => ok_same B D DR (n + 1) (2 * n + 2) (ok_rows B D DR n (2 * n + 1) (same_all B D DR n))
end
end K01.KX
namespace K01
open PySem PySem.Spec PyProof.Rows L2 TL HotExc L2H HotLc
local macro_rules | `(tactic| walk_at "rd") => `(tactic| simp only [start1, wipe, isR, isBool, isInt, isStr, isLst, isTup, tAsg, gName, gSub, tVar, tC, tOp, tUn, tTest, tIfS, tRet, tRetN, tDrop, tB, tAnd, tOr, tNot, tAndV, tOrV, tNotV, tIf, tCB, tCons, tNil, tNext, tCall, tBM, tTup, tLst, rI0, rI, rEq, rNe, scal, forR_eq, forR2_eq, forS_eq, forL_eq, lcL_eq, lcR_eq, lcS_eq, rLenX, rLenS, rMulS, rRepL, rCatL, tPart, tNoPart, CwR.tReplC, rAllK, rInSg, rNinSg, sgn_inj, rAddS, rInSt, tChain, tM1, tM0, rSplitN, rJoinN, exists_eq, rIntI, rIntB, rIntS, rStrI, rAbs, rOrd, rMin, rMax, rIxL, rIxX, rSetL, rAppend, rIxS, rSlS, rSlL, tSl, List.map_cons, List.map_nil, List.replicate_succ, List.replicate_zero, List.length_cons, List.length_nil, Nat.reduceSub, Nat.reduceAdd, Nat.zero_add, Nat.sub_self, List.getElem?_cons_zero, List.getElem?_cons_succ, List.set_cons_zero, List.set_cons_succ, List.append_nil, List.nil_append, List.cons_append, Option.some.injEq, not_true_eq_false, reduceCtorEq, exists_eq_left', exists_eq_left, exists_eq', exists_and_left, exists_and_right, V.int.injEq, V.str.injEq, V.bl.injEq, V.ref.injEq, List.cons.injEq, and_true, true_and, and_assoc, decide_eq_true_eq, Bool.not_eq_true', decide_eq_false_iff_not, ite_true, ite_false, if_true, if_false, Bool.not_true, Bool.not_false, Bool.false_eq_true, eq_self_iff_true, reduceIte, ne_eq, Int.reduceEq, not_false_eq_true])
local macro_rules | `(tactic| walk_at "rt") => `(tactic| try walk_at "rd")
local macro_rules | `(tactic| walk_at "st") => `(tactic| (walk_at "rt"; refine r_seq ?_; walk_at "rt"))
local macro_rules | `(tactic| walk_at "hp") => `(tactic| first | assumption | exact upd_same | (rw [upd_ne (by assumption)]; walk_at "hp"))
local macro_rules | `(tactic| walk_at "ex1") => `(tactic| ((with_reducible refine Exists.intro ?w (And.intro ?hx ?_)); (case hx => first | exact sq_of (by walk_at "hp") | exact .inl (sq_of (by walk_at "hp")) | exact rfl | (show _ = some (HO.lst _); walk_at "hp"))))
local macro_rules | `(tactic| walk_at "ex") => `(tactic| repeat (first | walk_at "ex1" | walk_at "rd"))
abbrev s_constants : Stmt := topS 78
theorem sc_constants : FnScope ["texts", "most"] [] (defScope s_constants) := ⟨rfl, rfl, rfl, by decide +kernel, rfl, by decide +kernel, by decide +kernel⟩
theorem ax_lst {K : PySem.W.Frag} {H : Hp} {a : Addr} {xs : List V} {l : List Dat} (h : H a = some (.lst xs)) (hl : xs.length ≤ 1000000) (r : KX.AtXL K H l xs) : KX.AtX K H (.lst l) (.ref a) := ⟨a, xs, rfl, h, hl, r⟩
theorem ax_tup {K : PySem.W.Frag} {H : Hp} {a : Addr} {xs : List V} {l : List Dat} (h : H a = some (.tup xs) ∨ KX.KTup K a xs) (hl : xs.length ≤ 1000000) (r : KX.AtXL K H l xs) : KX.AtX K H (.tup l) (.ref a) := ⟨a, xs, rfl, h, hl, r⟩
theorem axl {K : PySem.W.Frag} {H : Hp} {d : Dat} {l : List Dat} {v : V} {r : List V} (h : KX.AtX K H d v) (h2 : KX.AtXL K H l r) : KX.AtXL K H (d :: l) (v :: r) := ⟨v, r, rfl, h, h2⟩
def handsD : Dat := .tup [.str (Str.ofString "dark"), .str (Str.ofString "light")]
def textsD : Dat := .lst [.str (Str.ofString "dark"), .str (Str.ofString "light"), handsD, .str (Str.ofString "-"), .str (Str.ofString ".")]
def mostD : Dat := .lst [.int 20, .int 60, .int 60, .int 60, .int 12, .int 400, .int 400, .int 150, .int 60]
section
variable {P : Program} {w : World} {K : PySem.W.Frag} {mg : Str → Option Value} {base : Heap}
/-- the module's numbers and texts -/
structure Cst (mg : Str → Option Value) (aH : Addr) : Prop where
  DARK : ∃ t, mg "DARK" = some (.str (Str.ofString "dark") t)
  LIGHT : ∃ t, mg "LIGHT" = some (.str (Str.ofString "light") t)
  HANDS : mg "HANDS" = some (.ref aH)
  PASS : ∃ t, mg "PASS" = some (.str (Str.ofString "-") t)
  FREE : ∃ t, mg "FREE" = some (.str (Str.ofString ".") t)
  MOST_PLACES : ∃ t, mg "MOST_PLACES" = some (.int 20 t)
  MOST_TIES : ∃ t, mg "MOST_TIES" = some (.int 60 t)
  MOST_DEEDS : ∃ t, mg "MOST_DEEDS" = some (.int 60 t)
  MOST_NODES : ∃ t, mg "MOST_NODES" = some (.int 60 t)
  MOST_DEPTH : ∃ t, mg "MOST_DEPTH" = some (.int 12 t)
  MOST_BUDGET : ∃ t, mg "MOST_BUDGET" = some (.int 400 t)
  MOST_BOARDS : ∃ t, mg "MOST_BOARDS" = some (.int 400 t)
  MOST_SETS : ∃ t, mg "MOST_SETS" = some (.int 150 t)
  MOST_ROWS : ∃ t, mg "MOST_ROWS" = some (.int 60 t)
theorem ok_constants {f f_same aH : Addr} {fd fd_same : FuncData} (B : Bi mg) (D : Dn K mg "_law_constants" s_constants [] f fd) (D_same : Dn K mg "_law_same" s_same ["one", "two"] f_same fd_same) (T : Cst mg aH) (kH : KX.KTup K aH (hands.map V.str))
    (G_same : FnOk P w K mg base CX0 8 f_same fd_same ["one", "two"] (KX.spSame K 3)) : FnOk P w K mg base CX0 9 f fd [] spConst := by
  refine D.F.ok sc_constants (fun vs H Q E h => ?_) (fun cdv A outer s H vs Q E hr h => ?_)
  · obtain ⟨rfl, _⟩ := h
    rfl
  · obtain ⟨rfl, q⟩ := h
    obtain ⟨t1, gc_DARK⟩ := T.DARK
    obtain ⟨t2, gc_LIGHT⟩ := T.LIGHT
    have gc_HANDS := T.HANDS
    obtain ⟨t3, gc_PASS⟩ := T.PASS
    obtain ⟨t4, gc_FREE⟩ := T.FREE
    obtain ⟨t5, gc_MOST_PLACES⟩ := T.MOST_PLACES
    obtain ⟨t6, gc_MOST_TIES⟩ := T.MOST_TIES
    obtain ⟨t7, gc_MOST_DEEDS⟩ := T.MOST_DEEDS
    obtain ⟨t8, gc_MOST_NODES⟩ := T.MOST_NODES
    obtain ⟨t9, gc_MOST_DEPTH⟩ := T.MOST_DEPTH
    obtain ⟨ta, gc_MOST_BUDGET⟩ := T.MOST_BUDGET
    obtain ⟨tb, gc_MOST_BOARDS⟩ := T.MOST_BOARDS
    obtain ⟨tc, gc_MOST_SETS⟩ := T.MOST_SETS
    obtain ⟨td, gc_MOST_ROWS⟩ := T.MOST_ROWS
    refine ⟨_, (pss_cons (ps_set (i := 0) sc_constants.nd rfl (.inl rfl) (pe_call G_same (hr.mono (by omega)) (by rfl) D_same.g D_same.F.kp D_same.b .nil pass0 (pa_cons (pe_lst (pa_cons (pe_glob (v := .str (Str.ofString "dark")) (by rfl) gc_DARK ⟨_, rfl⟩) (pa_cons (pe_glob (v := .str (Str.ofString "light")) (by rfl) gc_LIGHT ⟨_, rfl⟩) (pa_cons (pe_glob (v := .ref aH) (by rfl) gc_HANDS rfl) (pa_cons (pe_glob (v := .str (Str.ofString "-")) (by rfl) gc_PASS ⟨_, rfl⟩) (pa_cons (pe_glob (v := .str (Str.ofString ".")) (by rfl) gc_FREE ⟨_, rfl⟩) pa_nil)))))) (pa_cons (pe_lst (pa_cons pe_str (pa_cons pe_str (pa_cons (pe_tup (pa_cons pe_str (pa_cons pe_str pa_nil))) (pa_cons pe_str (pa_cons pe_str pa_nil)))))) pa_nil))))
      (pss_cons (ps_set (i := 1) sc_constants.nd rfl (.inl rfl) (pe_lst (pa_cons (pe_glob (v := .int 20) (by rfl) gc_MOST_PLACES ⟨_, rfl⟩) (pa_cons (pe_glob (v := .int 60) (by rfl) gc_MOST_TIES ⟨_, rfl⟩) (pa_cons (pe_glob (v := .int 60) (by rfl) gc_MOST_DEEDS ⟨_, rfl⟩) (pa_cons (pe_glob (v := .int 60) (by rfl) gc_MOST_NODES ⟨_, rfl⟩) (pa_cons (pe_glob (v := .int 12) (by rfl) gc_MOST_DEPTH ⟨_, rfl⟩) (pa_cons (pe_glob (v := .int 400) (by rfl) gc_MOST_BUDGET ⟨_, rfl⟩) (pa_cons (pe_glob (v := .int 400) (by rfl) gc_MOST_BOARDS ⟨_, rfl⟩) (pa_cons (pe_glob (v := .int 150) (by rfl) gc_MOST_SETS ⟨_, rfl⟩) (pa_cons (pe_glob (v := .int 60) (by rfl) gc_MOST_ROWS ⟨_, rfl⟩) pa_nil)))))))))))
      (pss_one (ps_ret (pe_and (pv 0) (pe_one (pe_call G_same (hr.mono (by omega)) (by rfl) D_same.g D_same.F.kp D_same.b .nil pass0 (pa_cons (pv 1) (pa_cons (pe_lst (pa_cons pe_int (pa_cons pe_int (pa_cons pe_int (pa_cons pe_int (pa_cons pe_int (pa_cons pe_int (pa_cons pe_int (pa_cons pe_int (pa_cons pe_int pa_nil)))))))))) pa_nil))))))))), ?_⟩
    walk_at "st"
    refine ⟨by decide, fun p np => ⟨by decide, fun p1 np1 => ⟨by decide, fun p2 np2 => ?_⟩⟩⟩
    refine ⟨_, _, textsD, textsD, rfl, ax_lst (But0.new np2 _ _ (But0.new np1 _ _ upd_same)) (Nat.le_of_ble_eq_true rfl) (axl rfl (axl rfl (axl (ax_tup (.inr kH) (by decide) (axl rfl (axl rfl rfl))) (axl rfl (axl rfl rfl))))),
      ax_lst upd_same (Nat.le_of_ble_eq_true rfl) (axl rfl (axl rfl (axl (ax_tup (.inl (But0.new np2 _ _ upd_same)) (by decide) (axl rfl (axl rfl rfl))) (axl rfl (axl rfl rfl))))), by decide, ?_⟩
    rw [same_refl]
    have k3 := (fun b o e => But0.new np2 b o (But0.new np1 b o (But0.new np b o e)) : Keeps H (L2.upd (L2.upd (L2.upd H p (.lst [.str (Str.ofString "dark"), .str (Str.ofString "light"), .ref aH, .str (Str.ofString "-"), .str (Str.ofString ".")])) p1 (.tup [.str (Str.ofString "dark"), .str (Str.ofString "light")])) p2 (.lst [.str (Str.ofString "dark"), .str (Str.ofString "light"), .ref p1, .str (Str.ofString "-"), .str (Str.ofString ".")])))
    generalize (L2.upd (L2.upd (L2.upd H p (.lst [.str (Str.ofString "dark"), .str (Str.ofString "light"), .ref aH, .str (Str.ofString "-"), .str (Str.ofString ".")])) p1 (.tup [.str (Str.ofString "dark"), .str (Str.ofString "light")])) p2 (.lst [.str (Str.ofString "dark"), .str (Str.ofString "light"), .ref p1, .str (Str.ofString "-"), .str (Str.ofString ".")])) = H3 at k3 ⊢
    walk_at "st"
    refine ⟨by decide, fun p4 np4 => ?_⟩
    walk_at "rt"
    refine ⟨by decide, fun p5 np5 => ?_⟩
    refine ⟨_, _, mostD, mostD, rfl, ax_lst (But0.new np5 _ _ upd_same) (by decide) (axl rfl (axl rfl (axl rfl (axl rfl (axl rfl (axl rfl (axl rfl (axl rfl (axl rfl rfl))))))))),
      ax_lst upd_same (by decide) (axl rfl (axl rfl (axl rfl (axl rfl (axl rfl (axl rfl (axl rfl (axl rfl (axl rfl rfl))))))))), by decide, ?_⟩
    rw [same_refl]
    exact q _ fun b o e => But0.new np5 b o (But0.new np4 b o (k3 b o e))
end
end K01
namespace K01
open PySem PySem.Spec PyProof.Rows L2 TL HotExc L2H HotLc
theorem kb_two {K : PySem.W.Frag} {fd : FuncData} {ps ks : List Str} (h : ∀ a b c d : Value, bindArgs fd ⟨[a, b], ks.zip [c, d]⟩ = pure (ps.zip [a, b, c, d])) (hp : ps.length = 4) : KBinds K fd ps ks kwG kwG where
  to := fun s us ws _ hl => match us, ws, hl with
    | [a, b], [c, d], _ => .of_eq (h a b c d)
    | [], _, e => absurd e (by rw [hp]; exact fun z => nomatch z)
    | [_], _, e => absurd e (by rw [hp]; exact fun z => nomatch z)
    | _ :: _ :: _ :: _, _, e => absurd e (by rw [hp]; exact fun z => nomatch z)
    | [_, _], [], e => absurd e (by rw [hp]; exact fun z => nomatch z)
    | [_, _], [_], e => absurd e (by rw [hp]; exact fun z => nomatch z)
    | [_, _], _ :: _ :: _ :: _, e => absurd e (by rw [hp]; exact fun z => nomatch z)
  rel := fun {vs us zs ws} h1 h2 => by
    cases h1 with
    | nil => exact .nil
    | cons a h1 => cases h1 with
      | nil => exact .nil
      | cons b h1 => cases h1 with
        | cons c h1 => exact .nil
        | nil => cases h2 with
          | nil => exact .nil
          | cons c h2 => cases h2 with
            | nil => exact .nil
            | cons d h2 => cases h2 with
              | cons e h2 => exact .nil
              | nil => exact .cons a (.cons b (.cons c (.cons d .nil)))
theorem says_of {K : PySem.W.Frag} {a : Addr} {h1 h2 : Int} {u1 u2 u3 u4 : Tok} {n : Nat} (l : K.lookup a = some ⟨.type "dict", none, .dict #[⟨h1, .str (Str.ofString "d") u1, .str (Str.ofString "dark") u2⟩, ⟨h2, .str (Str.ofString "l") u3, .str (Str.ofString "light") u4⟩] n, #[]⟩) (z : Str) : Says K a z (match handsOf.lookup z with | some y => .str y | none => .non) := by
  have key : ∀ r, PySem.W.nsIn K a z = some r → ((∃ u, r = some u ∧ RelV (match handsOf.lookup z with | some y => V.str y | none => .non) u) ∨ (r = none ∧ (match handsOf.lookup z with | some y => V.str y | none => V.non) = .non)) → Says K a z (match handsOf.lookup z with | some y => .str y | none => .non) := fun r e h => ⟨r, e, h⟩
  have e0 : PySem.W.nsIn K a z = (match [(⟨h1, .str (Str.ofString "d") u1, .str (Str.ofString "dark") u2⟩ : DictEntry), ⟨h2, .str (Str.ofString "l") u3, .str (Str.ofString "light") u4⟩].find? (·.key.isStr z) with | some e => some (some e.val) | none => some none) := by
    unfold PySem.W.nsIn
    rw [l]
    rfl
  have i1 : ∀ x : Str, ∀ t : Tok, (Value.str x t).isStr z = (x == z) := fun _ _ => rfl
  by_cases hd : z = Str.ofString "d"
  · subst hd
    refine key (some (.str (Str.ofString "dark") u2)) (e0.trans ?_) (.inl ⟨_, rfl, _, rfl⟩)
    rw [List.find?_cons, i1]
    rfl
  · have n1 : (Str.ofString "d" == z) = false := by simpa using fun e => hd e.symm
    by_cases hl : z = Str.ofString "l"
    · subst hl
      refine key (some (.str (Str.ofString "light") u4)) (e0.trans ?_) (.inl ⟨_, rfl, _, rfl⟩)
      rw [List.find?_cons, i1, n1, List.find?_cons, i1]
      rfl
    · have n2 : (Str.ofString "l" == z) = false := by simpa using fun e => hl e.symm
      refine key none (e0.trans ?_) (.inr ⟨rfl, ?_⟩)
      · rw [List.find?_cons, i1, n1, List.find?_cons, i1, n2]
        rfl
      · have e1 : (z == Str.ofString "d") = false := by simpa using hd
        have e2 : (z == Str.ofString "l") = false := by simpa using hl
        have e3 : handsOf.lookup z = none := by
          unfold handsOf
          rw [List.lookup_cons, e1, List.lookup_cons, e2]
          rfl
        rw [e3]
/-! ### what the top has written; the end -/
set_option maxHeartbeats 8000000 in
theorem all_mk {l : PySem.W.OpenLaw} {w : World} {K : PySem.W.Frag} {h : Heap} {mg : Str → Option Value} {fa : Addr} (X : K.In h) (G : h.Ns mainGlobals mg) (hfa : mg "law" = some (.ref fa))
    {f_checkhand f_otherhand f_signof f_handof f_isname f_isnumber f_checknumber f_store f_mixed f_take f_pick f_chance f_number f_size f_shuffled f_same f_samerows f_signsoftexts f_text f_name f_badname f_kinds f_due f_named f_anytext f_near f_toldother f_toldsign f_toldcheck f_textgood f_numbergood f_constants f_law : Addr} {od_checkhand an_checkhand od_otherhand an_otherhand od_signof an_signof od_handof an_handof od_isname an_isname od_isnumber an_isnumber od_checknumber an_checknumber od_store an_store od_mixed an_mixed od_take an_take od_pick an_pick od_chance an_chance od_number an_number od_size an_size od_shuffled an_shuffled od_same an_same od_samerows an_samerows od_signsoftexts an_signsoftexts od_text an_text od_name an_name od_badname an_badname od_kinds an_kinds od_due an_due od_named an_named od_anytext an_anytext od_near an_near od_toldother an_toldother od_toldsign an_toldsign od_toldcheck an_toldcheck od_textgood an_textgood od_numbergood an_numbergood od_constants an_constants od_law an_law : Option Addr} {sl_checkhand sl_otherhand sl_signof sl_handof sl_isname sl_isnumber sl_checknumber sl_store sl_mixed sl_take sl_pick sl_chance sl_number sl_size sl_shuffled sl_same sl_samerows sl_signsoftexts sl_text sl_name sl_badname sl_kinds sl_due sl_named sl_anytext sl_near sl_toldother sl_toldsign sl_toldcheck sl_textgood sl_numbergood sl_constants sl_law : Array (Option Value)}
    {oc_checkhand kV_checkhand dc_checkhand pm_checkhand cd_checkhand ct_checkhand oc_otherhand kV_otherhand dc_otherhand pm_otherhand cd_otherhand ct_otherhand oc_signof kV_signof dc_signof pm_signof cd_signof ct_signof oc_handof kV_handof dc_handof pm_handof cd_handof ct_handof oc_isname kV_isname dc_isname pm_isname cd_isname ct_isname oc_isnumber kV_isnumber dc_isnumber pm_isnumber cd_isnumber ct_isnumber oc_checknumber kV_checknumber dc_checknumber pm_checknumber cd_checknumber ct_checknumber oc_store kV_store dc_store pm_store cd_store ct_store oc_mixed kV_mixed dc_mixed pm_mixed cd_mixed ct_mixed oc_take kV_take dc_take pm_take cd_take ct_take oc_pick kV_pick dc_pick pm_pick cd_pick ct_pick oc_chance kV_chance dc_chance pm_chance cd_chance ct_chance oc_number kV_number dc_number pm_number cd_number ct_number oc_size kV_size dc_size pm_size cd_size ct_size oc_shuffled kV_shuffled dc_shuffled pm_shuffled cd_shuffled ct_shuffled oc_same kV_same dc_same pm_same cd_same ct_same oc_samerows kV_samerows dc_samerows pm_samerows cd_samerows ct_samerows oc_signsoftexts kV_signsoftexts dc_signsoftexts pm_signsoftexts cd_signsoftexts ct_signsoftexts oc_text kV_text dc_text pm_text cd_text ct_text oc_name kV_name dc_name pm_name cd_name ct_name oc_badname kV_badname dc_badname pm_badname cd_badname ct_badname oc_kinds kV_kinds dc_kinds pm_kinds cd_kinds ct_kinds oc_due kV_due dc_due pm_due cd_due ct_due oc_named kV_named dc_named pm_named cd_named ct_named oc_anytext kV_anytext dc_anytext pm_anytext cd_anytext ct_anytext oc_near kV_near dc_near pm_near cd_near ct_near oc_toldother kV_toldother dc_toldother pm_toldother cd_toldother ct_toldother oc_toldsign kV_toldsign dc_toldsign pm_toldsign cd_toldsign ct_toldsign oc_toldcheck kV_toldcheck dc_toldcheck pm_toldcheck cd_toldcheck ct_toldcheck oc_textgood kV_textgood dc_textgood pm_textgood cd_textgood ct_textgood oc_numbergood kV_numbergood dc_numbergood pm_numbergood cd_numbergood ct_numbergood oc_constants kV_constants dc_constants pm_constants cd_constants ct_constants oc_law kV_law dc_law pm_law cd_law ct_law : Value}
    {c_TworoomsError c_BadNumber c_NoHand c_BadName c_TooMany c_NoEntry c_NoPlace c_SelfTie c_Repeated c_BadSigns c_BadText c_BadTree c_BadMap c_NotRight c_NoStone c_Stands c_Falls c_GameOver c_Occupied c_SelfTaking c_ComesBack c_BadDeed c_NothingDone c_BadRow : Addr} {t_DARK t_LIGHT t_PASS t_FREE t_MOST_PLACES t_MOST_TIES t_MOST_DEEDS t_MOST_NODES t_MOST_DEPTH t_MOST_BUDGET t_MOST_BOARDS t_MOST_SETS t_MOST_ROWS t_LETTERS t_DIGITS t_LONGEST_NAME : Tok}
    {nm_NoHand q_NoHand : Str} {N_NoHand fI_NoHand : Addr} {bs_NoHand bm_NoHand sub_NoHand : List Value} {sn_NoHand : List Str} {ab_NoHand : Bool} {col_NoHand : Option Bool} {dd_NoHand odI_NoHand anI_NoHand : Option Addr} {m0_NoHand m1_NoHand m2_NoHand m3_NoHand m5_NoHand : Option Value} {ocI_NoHand kVI_NoHand dcI_NoHand pmI_NoHand cdI_NoHand ctI_NoHand : Value} {slI_NoHand : Array (Option Value)}
    {nm_BadNumber q_BadNumber : Str} {N_BadNumber fI_BadNumber : Addr} {bs_BadNumber bm_BadNumber sub_BadNumber : List Value} {sn_BadNumber : List Str} {ab_BadNumber : Bool} {col_BadNumber : Option Bool} {dd_BadNumber odI_BadNumber anI_BadNumber : Option Addr} {m0_BadNumber m1_BadNumber m2_BadNumber m3_BadNumber m5_BadNumber : Option Value} {ocI_BadNumber kVI_BadNumber dcI_BadNumber pmI_BadNumber cdI_BadNumber ctI_BadNumber : Value} {slI_BadNumber : Array (Option Value)}
    (a_checkhand : PySem.W.nsIn K mainGlobals "check_hand" = some (some (.ref f_checkhand))) (l_checkhand : K.lookup f_checkhand = some ⟨oc_checkhand, od_checkhand, .func (PySem.W.fnOf "check_hand" "check_hand" (defArgs s_checkhand) (defBody s_checkhand) (defScope s_checkhand) .none kV_checkhand dc_checkhand pm_checkhand an_checkhand cd_checkhand ct_checkhand), sl_checkhand⟩) (c_f_checkhand : PySem.W.codeIn K cd_checkhand "check_hand" = true) (k_checkhand : PySem.W.keepIn K (.ref f_checkhand) = true)
    (a_otherhand : PySem.W.nsIn K mainGlobals "other_hand" = some (some (.ref f_otherhand))) (l_otherhand : K.lookup f_otherhand = some ⟨oc_otherhand, od_otherhand, .func (PySem.W.fnOf "other_hand" "other_hand" (defArgs s_otherhand) (defBody s_otherhand) (defScope s_otherhand) .none kV_otherhand dc_otherhand pm_otherhand an_otherhand cd_otherhand ct_otherhand), sl_otherhand⟩) (c_f_otherhand : PySem.W.codeIn K cd_otherhand "other_hand" = true) (k_otherhand : PySem.W.keepIn K (.ref f_otherhand) = true)
    (a_signof : PySem.W.nsIn K mainGlobals "sign_of" = some (some (.ref f_signof))) (l_signof : K.lookup f_signof = some ⟨oc_signof, od_signof, .func (PySem.W.fnOf "sign_of" "sign_of" (defArgs s_signof) (defBody s_signof) (defScope s_signof) .none kV_signof dc_signof pm_signof an_signof cd_signof ct_signof), sl_signof⟩) (c_f_signof : PySem.W.codeIn K cd_signof "sign_of" = true) (k_signof : PySem.W.keepIn K (.ref f_signof) = true)
    (a_handof : PySem.W.nsIn K mainGlobals "hand_of" = some (some (.ref f_handof))) (l_handof : K.lookup f_handof = some ⟨oc_handof, od_handof, .func (PySem.W.fnOf "hand_of" "hand_of" (defArgs s_handof) (defBody s_handof) (defScope s_handof) .none kV_handof dc_handof pm_handof an_handof cd_handof ct_handof), sl_handof⟩) (c_f_handof : PySem.W.codeIn K cd_handof "hand_of" = true) (k_handof : PySem.W.keepIn K (.ref f_handof) = true)
    (a_isname : PySem.W.nsIn K mainGlobals "is_name" = some (some (.ref f_isname))) (l_isname : K.lookup f_isname = some ⟨oc_isname, od_isname, .func (PySem.W.fnOf "is_name" "is_name" (defArgs s_isname) (defBody s_isname) (defScope s_isname) .none kV_isname dc_isname pm_isname an_isname cd_isname ct_isname), sl_isname⟩) (c_f_isname : PySem.W.codeIn K cd_isname "is_name" = true) (k_isname : PySem.W.keepIn K (.ref f_isname) = true)
    (a_isnumber : PySem.W.nsIn K mainGlobals "is_number" = some (some (.ref f_isnumber))) (l_isnumber : K.lookup f_isnumber = some ⟨oc_isnumber, od_isnumber, .func (PySem.W.fnOf "is_number" "is_number" (defArgs s_isnumber) (defBody s_isnumber) (defScope s_isnumber) .none kV_isnumber dc_isnumber pm_isnumber an_isnumber cd_isnumber ct_isnumber), sl_isnumber⟩) (c_f_isnumber : PySem.W.codeIn K cd_isnumber "is_number" = true) (k_isnumber : PySem.W.keepIn K (.ref f_isnumber) = true)
    (a_checknumber : PySem.W.nsIn K mainGlobals "check_number" = some (some (.ref f_checknumber))) (l_checknumber : K.lookup f_checknumber = some ⟨oc_checknumber, od_checknumber, .func (PySem.W.fnOf "check_number" "check_number" (defArgs s_checknumber) (defBody s_checknumber) (defScope s_checknumber) .none kV_checknumber dc_checknumber pm_checknumber an_checknumber cd_checknumber ct_checknumber), sl_checknumber⟩) (c_f_checknumber : PySem.W.codeIn K cd_checknumber "check_number" = true) (k_checknumber : PySem.W.keepIn K (.ref f_checknumber) = true)
    (a_store : PySem.W.nsIn K mainGlobals "_law_store" = some (some (.ref f_store))) (l_store : K.lookup f_store = some ⟨oc_store, od_store, .func (PySem.W.fnOf "_law_store" "_law_store" (defArgs s_store) (defBody s_store) (defScope s_store) .none kV_store dc_store pm_store an_store cd_store ct_store), sl_store⟩) (c_f_store : PySem.W.codeIn K cd_store "_law_store" = true) (k_store : PySem.W.keepIn K (.ref f_store) = true)
    (a_mixed : PySem.W.nsIn K mainGlobals "_law_mixed" = some (some (.ref f_mixed))) (l_mixed : K.lookup f_mixed = some ⟨oc_mixed, od_mixed, .func (PySem.W.fnOf "_law_mixed" "_law_mixed" (defArgs s_mixed) (defBody s_mixed) (defScope s_mixed) .none kV_mixed dc_mixed pm_mixed an_mixed cd_mixed ct_mixed), sl_mixed⟩) (c_f_mixed : PySem.W.codeIn K cd_mixed "_law_mixed" = true) (k_mixed : PySem.W.keepIn K (.ref f_mixed) = true)
    (a_take : PySem.W.nsIn K mainGlobals "_law_take" = some (some (.ref f_take))) (l_take : K.lookup f_take = some ⟨oc_take, od_take, .func (PySem.W.fnOf "_law_take" "_law_take" (defArgs s_take) (defBody s_take) (defScope s_take) .none kV_take dc_take pm_take an_take cd_take ct_take), sl_take⟩) (c_f_take : PySem.W.codeIn K cd_take "_law_take" = true) (k_take : PySem.W.keepIn K (.ref f_take) = true)
    (a_pick : PySem.W.nsIn K mainGlobals "_law_pick" = some (some (.ref f_pick))) (l_pick : K.lookup f_pick = some ⟨oc_pick, od_pick, .func (PySem.W.fnOf "_law_pick" "_law_pick" (defArgs s_pick) (defBody s_pick) (defScope s_pick) .none kV_pick dc_pick pm_pick an_pick cd_pick ct_pick), sl_pick⟩) (c_f_pick : PySem.W.codeIn K cd_pick "_law_pick" = true) (k_pick : PySem.W.keepIn K (.ref f_pick) = true)
    (a_chance : PySem.W.nsIn K mainGlobals "_law_chance" = some (some (.ref f_chance))) (l_chance : K.lookup f_chance = some ⟨oc_chance, od_chance, .func (PySem.W.fnOf "_law_chance" "_law_chance" (defArgs s_chance) (defBody s_chance) (defScope s_chance) .none kV_chance dc_chance pm_chance an_chance cd_chance ct_chance), sl_chance⟩) (c_f_chance : PySem.W.codeIn K cd_chance "_law_chance" = true) (k_chance : PySem.W.keepIn K (.ref f_chance) = true)
    (a_number : PySem.W.nsIn K mainGlobals "_law_number" = some (some (.ref f_number))) (l_number : K.lookup f_number = some ⟨oc_number, od_number, .func (PySem.W.fnOf "_law_number" "_law_number" (defArgs s_number) (defBody s_number) (defScope s_number) .none kV_number dc_number pm_number an_number cd_number ct_number), sl_number⟩) (c_f_number : PySem.W.codeIn K cd_number "_law_number" = true) (k_number : PySem.W.keepIn K (.ref f_number) = true)
    (a_size : PySem.W.nsIn K mainGlobals "_law_size" = some (some (.ref f_size))) (l_size : K.lookup f_size = some ⟨oc_size, od_size, .func (PySem.W.fnOf "_law_size" "_law_size" (defArgs s_size) (defBody s_size) (defScope s_size) .none kV_size dc_size pm_size an_size cd_size ct_size), sl_size⟩) (c_f_size : PySem.W.codeIn K cd_size "_law_size" = true) (k_size : PySem.W.keepIn K (.ref f_size) = true)
    (a_shuffled : PySem.W.nsIn K mainGlobals "_law_shuffled" = some (some (.ref f_shuffled))) (l_shuffled : K.lookup f_shuffled = some ⟨oc_shuffled, od_shuffled, .func (PySem.W.fnOf "_law_shuffled" "_law_shuffled" (defArgs s_shuffled) (defBody s_shuffled) (defScope s_shuffled) .none kV_shuffled dc_shuffled pm_shuffled an_shuffled cd_shuffled ct_shuffled), sl_shuffled⟩) (c_f_shuffled : PySem.W.codeIn K cd_shuffled "_law_shuffled" = true) (k_shuffled : PySem.W.keepIn K (.ref f_shuffled) = true)
    (a_same : PySem.W.nsIn K mainGlobals "_law_same" = some (some (.ref f_same))) (l_same : K.lookup f_same = some ⟨oc_same, od_same, .func (PySem.W.fnOf "_law_same" "_law_same" (defArgs s_same) (defBody s_same) (defScope s_same) .none kV_same dc_same pm_same an_same cd_same ct_same), sl_same⟩) (c_f_same : PySem.W.codeIn K cd_same "_law_same" = true) (k_same : PySem.W.keepIn K (.ref f_same) = true)
    (a_samerows : PySem.W.nsIn K mainGlobals "_law_same_rows" = some (some (.ref f_samerows))) (l_samerows : K.lookup f_samerows = some ⟨oc_samerows, od_samerows, .func (PySem.W.fnOf "_law_same_rows" "_law_same_rows" (defArgs s_samerows) (defBody s_samerows) (defScope s_samerows) .none kV_samerows dc_samerows pm_samerows an_samerows cd_samerows ct_samerows), sl_samerows⟩) (c_f_samerows : PySem.W.codeIn K cd_samerows "_law_same_rows" = true) (k_samerows : PySem.W.keepIn K (.ref f_samerows) = true)
    (a_signsoftexts : PySem.W.nsIn K mainGlobals "_law_signs_of_texts" = some (some (.ref f_signsoftexts))) (l_signsoftexts : K.lookup f_signsoftexts = some ⟨oc_signsoftexts, od_signsoftexts, .func (PySem.W.fnOf "_law_signs_of_texts" "_law_signs_of_texts" (defArgs s_signsoftexts) (defBody s_signsoftexts) (defScope s_signsoftexts) .none kV_signsoftexts dc_signsoftexts pm_signsoftexts an_signsoftexts cd_signsoftexts ct_signsoftexts), sl_signsoftexts⟩) (c_f_signsoftexts : PySem.W.codeIn K cd_signsoftexts "_law_signs_of_texts" = true) (k_signsoftexts : PySem.W.keepIn K (.ref f_signsoftexts) = true)
    (a_text : PySem.W.nsIn K mainGlobals "_law_text" = some (some (.ref f_text))) (l_text : K.lookup f_text = some ⟨oc_text, od_text, .func (PySem.W.fnOf "_law_text" "_law_text" (defArgs s_text) (defBody s_text) (defScope s_text) .none kV_text dc_text pm_text an_text cd_text ct_text), sl_text⟩) (c_f_text : PySem.W.codeIn K cd_text "_law_text" = true) (k_text : PySem.W.keepIn K (.ref f_text) = true)
    (a_name : PySem.W.nsIn K mainGlobals "_law_name" = some (some (.ref f_name))) (l_name : K.lookup f_name = some ⟨oc_name, od_name, .func (PySem.W.fnOf "_law_name" "_law_name" (defArgs s_name) (defBody s_name) (defScope s_name) .none kV_name dc_name pm_name an_name cd_name ct_name), sl_name⟩) (c_f_name : PySem.W.codeIn K cd_name "_law_name" = true) (k_name : PySem.W.keepIn K (.ref f_name) = true)
    (a_badname : PySem.W.nsIn K mainGlobals "_law_bad_name" = some (some (.ref f_badname))) (l_badname : K.lookup f_badname = some ⟨oc_badname, od_badname, .func (PySem.W.fnOf "_law_bad_name" "_law_bad_name" (defArgs s_badname) (defBody s_badname) (defScope s_badname) .none kV_badname dc_badname pm_badname an_badname cd_badname ct_badname), sl_badname⟩) (c_f_badname : PySem.W.codeIn K cd_badname "_law_bad_name" = true) (k_badname : PySem.W.keepIn K (.ref f_badname) = true)
    (a_kinds : PySem.W.nsIn K mainGlobals "_law_kinds" = some (some (.ref f_kinds))) (l_kinds : K.lookup f_kinds = some ⟨oc_kinds, od_kinds, .func (PySem.W.fnOf "_law_kinds" "_law_kinds" (defArgs s_kinds) (defBody s_kinds) (defScope s_kinds) .none kV_kinds dc_kinds pm_kinds an_kinds cd_kinds ct_kinds), sl_kinds⟩) (c_f_kinds : PySem.W.codeIn K cd_kinds "_law_kinds" = true) (k_kinds : PySem.W.keepIn K (.ref f_kinds) = true)
    (a_due : PySem.W.nsIn K mainGlobals "_law_due" = some (some (.ref f_due))) (l_due : K.lookup f_due = some ⟨oc_due, od_due, .func (PySem.W.fnOf "_law_due" "_law_due" (defArgs s_due) (defBody s_due) (defScope s_due) .none kV_due dc_due pm_due an_due cd_due ct_due), sl_due⟩) (c_f_due : PySem.W.codeIn K cd_due "_law_due" = true) (k_due : PySem.W.keepIn K (.ref f_due) = true)
    (a_named : PySem.W.nsIn K mainGlobals "_law_named" = some (some (.ref f_named))) (l_named : K.lookup f_named = some ⟨oc_named, od_named, .func (PySem.W.fnOf "_law_named" "_law_named" (defArgs s_named) (defBody s_named) (defScope s_named) .none kV_named dc_named pm_named an_named cd_named ct_named), sl_named⟩) (c_f_named : PySem.W.codeIn K cd_named "_law_named" = true) (k_named : PySem.W.keepIn K (.ref f_named) = true)
    (a_anytext : PySem.W.nsIn K mainGlobals "_law_any_text" = some (some (.ref f_anytext))) (l_anytext : K.lookup f_anytext = some ⟨oc_anytext, od_anytext, .func (PySem.W.fnOf "_law_any_text" "_law_any_text" (defArgs s_anytext) (defBody s_anytext) (defScope s_anytext) .none kV_anytext dc_anytext pm_anytext an_anytext cd_anytext ct_anytext), sl_anytext⟩) (c_f_anytext : PySem.W.codeIn K cd_anytext "_law_any_text" = true) (k_anytext : PySem.W.keepIn K (.ref f_anytext) = true)
    (a_near : PySem.W.nsIn K mainGlobals "_law_near" = some (some (.ref f_near))) (l_near : K.lookup f_near = some ⟨oc_near, od_near, .func (PySem.W.fnOf "_law_near" "_law_near" (defArgs s_near) (defBody s_near) (defScope s_near) .none kV_near dc_near pm_near an_near cd_near ct_near), sl_near⟩) (c_f_near : PySem.W.codeIn K cd_near "_law_near" = true) (k_near : PySem.W.keepIn K (.ref f_near) = true)
    (a_toldother : PySem.W.nsIn K mainGlobals "_law_told_other" = some (some (.ref f_toldother))) (l_toldother : K.lookup f_toldother = some ⟨oc_toldother, od_toldother, .func (PySem.W.fnOf "_law_told_other" "_law_told_other" (defArgs s_toldother) (defBody s_toldother) (defScope s_toldother) .none kV_toldother dc_toldother pm_toldother an_toldother cd_toldother ct_toldother), sl_toldother⟩) (c_f_toldother : PySem.W.codeIn K cd_toldother "_law_told_other" = true) (k_toldother : PySem.W.keepIn K (.ref f_toldother) = true)
    (a_toldsign : PySem.W.nsIn K mainGlobals "_law_told_sign" = some (some (.ref f_toldsign))) (l_toldsign : K.lookup f_toldsign = some ⟨oc_toldsign, od_toldsign, .func (PySem.W.fnOf "_law_told_sign" "_law_told_sign" (defArgs s_toldsign) (defBody s_toldsign) (defScope s_toldsign) .none kV_toldsign dc_toldsign pm_toldsign an_toldsign cd_toldsign ct_toldsign), sl_toldsign⟩) (c_f_toldsign : PySem.W.codeIn K cd_toldsign "_law_told_sign" = true) (k_toldsign : PySem.W.keepIn K (.ref f_toldsign) = true)
    (a_toldcheck : PySem.W.nsIn K mainGlobals "_law_told_check" = some (some (.ref f_toldcheck))) (l_toldcheck : K.lookup f_toldcheck = some ⟨oc_toldcheck, od_toldcheck, .func (PySem.W.fnOf "_law_told_check" "_law_told_check" (defArgs s_toldcheck) (defBody s_toldcheck) (defScope s_toldcheck) .none kV_toldcheck dc_toldcheck pm_toldcheck an_toldcheck cd_toldcheck ct_toldcheck), sl_toldcheck⟩) (c_f_toldcheck : PySem.W.codeIn K cd_toldcheck "_law_told_check" = true) (k_toldcheck : PySem.W.keepIn K (.ref f_toldcheck) = true)
    (a_textgood : PySem.W.nsIn K mainGlobals "_law_text_good" = some (some (.ref f_textgood))) (l_textgood : K.lookup f_textgood = some ⟨oc_textgood, od_textgood, .func (PySem.W.fnOf "_law_text_good" "_law_text_good" (defArgs s_textgood) (defBody s_textgood) (defScope s_textgood) .none kV_textgood dc_textgood pm_textgood an_textgood cd_textgood ct_textgood), sl_textgood⟩) (c_f_textgood : PySem.W.codeIn K cd_textgood "_law_text_good" = true) (k_textgood : PySem.W.keepIn K (.ref f_textgood) = true)
    (a_numbergood : PySem.W.nsIn K mainGlobals "_law_number_good" = some (some (.ref f_numbergood))) (l_numbergood : K.lookup f_numbergood = some ⟨oc_numbergood, od_numbergood, .func (PySem.W.fnOf "_law_number_good" "_law_number_good" (defArgs s_numbergood) (defBody s_numbergood) (defScope s_numbergood) .none kV_numbergood dc_numbergood pm_numbergood an_numbergood cd_numbergood ct_numbergood), sl_numbergood⟩) (c_f_numbergood : PySem.W.codeIn K cd_numbergood "_law_number_good" = true) (k_numbergood : PySem.W.keepIn K (.ref f_numbergood) = true)
    (a_constants : PySem.W.nsIn K mainGlobals "_law_constants" = some (some (.ref f_constants))) (l_constants : K.lookup f_constants = some ⟨oc_constants, od_constants, .func (PySem.W.fnOf "_law_constants" "_law_constants" (defArgs s_constants) (defBody s_constants) (defScope s_constants) .none kV_constants dc_constants pm_constants an_constants cd_constants ct_constants), sl_constants⟩) (c_f_constants : PySem.W.codeIn K cd_constants "_law_constants" = true) (k_constants : PySem.W.keepIn K (.ref f_constants) = true)
    (a_law : PySem.W.nsIn K mainGlobals "law" = some (some (.ref f_law))) (l_law : K.lookup f_law = some ⟨oc_law, od_law, .func (PySem.W.fnOf "law" "law" (defArgs s_law) (defBody s_law) (defScope s_law) .none kV_law dc_law pm_law an_law cd_law ct_law), sl_law⟩) (c_f_law : PySem.W.codeIn K cd_law "law" = true) (k_law : PySem.W.keepIn K (.ref f_law) = true)
    (e_TworoomsError : PySem.W.nsIn K mainGlobals "TworoomsError" = some (some (.ref c_TworoomsError)))
    (e_BadNumber : PySem.W.nsIn K mainGlobals "BadNumber" = some (some (.ref c_BadNumber)))
    (e_NoHand : PySem.W.nsIn K mainGlobals "NoHand" = some (some (.ref c_NoHand)))
    (e_BadName : PySem.W.nsIn K mainGlobals "BadName" = some (some (.ref c_BadName)))
    (e_TooMany : PySem.W.nsIn K mainGlobals "TooMany" = some (some (.ref c_TooMany)))
    (e_NoEntry : PySem.W.nsIn K mainGlobals "NoEntry" = some (some (.ref c_NoEntry)))
    (e_NoPlace : PySem.W.nsIn K mainGlobals "NoPlace" = some (some (.ref c_NoPlace)))
    (e_SelfTie : PySem.W.nsIn K mainGlobals "SelfTie" = some (some (.ref c_SelfTie)))
    (e_Repeated : PySem.W.nsIn K mainGlobals "Repeated" = some (some (.ref c_Repeated)))
    (e_BadSigns : PySem.W.nsIn K mainGlobals "BadSigns" = some (some (.ref c_BadSigns)))
    (e_BadText : PySem.W.nsIn K mainGlobals "BadText" = some (some (.ref c_BadText)))
    (e_BadTree : PySem.W.nsIn K mainGlobals "BadTree" = some (some (.ref c_BadTree)))
    (e_BadMap : PySem.W.nsIn K mainGlobals "BadMap" = some (some (.ref c_BadMap)))
    (e_NotRight : PySem.W.nsIn K mainGlobals "NotRight" = some (some (.ref c_NotRight)))
    (e_NoStone : PySem.W.nsIn K mainGlobals "NoStone" = some (some (.ref c_NoStone)))
    (e_Stands : PySem.W.nsIn K mainGlobals "Stands" = some (some (.ref c_Stands)))
    (e_Falls : PySem.W.nsIn K mainGlobals "Falls" = some (some (.ref c_Falls)))
    (e_GameOver : PySem.W.nsIn K mainGlobals "GameOver" = some (some (.ref c_GameOver)))
    (e_Occupied : PySem.W.nsIn K mainGlobals "Occupied" = some (some (.ref c_Occupied)))
    (e_SelfTaking : PySem.W.nsIn K mainGlobals "SelfTaking" = some (some (.ref c_SelfTaking)))
    (e_ComesBack : PySem.W.nsIn K mainGlobals "ComesBack" = some (some (.ref c_ComesBack)))
    (e_BadDeed : PySem.W.nsIn K mainGlobals "BadDeed" = some (some (.ref c_BadDeed)))
    (e_NothingDone : PySem.W.nsIn K mainGlobals "NothingDone" = some (some (.ref c_NothingDone)))
    (e_BadRow : PySem.W.nsIn K mainGlobals "BadRow" = some (some (.ref c_BadRow)))
    (kit_NoHand_TworoomsError : PySem.W.kitOne K (.ref c_NoHand) (.ref c_TworoomsError) = some true)
    (kit_NoHand_BadNumber : PySem.W.kitOne K (.ref c_NoHand) (.ref c_BadNumber) = some false)
    (kit_NoHand_NoHand : PySem.W.kitOne K (.ref c_NoHand) (.ref c_NoHand) = some true)
    (kit_NoHand_BadName : PySem.W.kitOne K (.ref c_NoHand) (.ref c_BadName) = some false)
    (kit_NoHand_TooMany : PySem.W.kitOne K (.ref c_NoHand) (.ref c_TooMany) = some false)
    (kit_NoHand_NoEntry : PySem.W.kitOne K (.ref c_NoHand) (.ref c_NoEntry) = some false)
    (kit_NoHand_NoPlace : PySem.W.kitOne K (.ref c_NoHand) (.ref c_NoPlace) = some false)
    (kit_NoHand_SelfTie : PySem.W.kitOne K (.ref c_NoHand) (.ref c_SelfTie) = some false)
    (kit_NoHand_Repeated : PySem.W.kitOne K (.ref c_NoHand) (.ref c_Repeated) = some false)
    (kit_NoHand_BadSigns : PySem.W.kitOne K (.ref c_NoHand) (.ref c_BadSigns) = some false)
    (kit_NoHand_BadText : PySem.W.kitOne K (.ref c_NoHand) (.ref c_BadText) = some false)
    (kit_NoHand_BadTree : PySem.W.kitOne K (.ref c_NoHand) (.ref c_BadTree) = some false)
    (kit_NoHand_BadMap : PySem.W.kitOne K (.ref c_NoHand) (.ref c_BadMap) = some false)
    (kit_NoHand_NotRight : PySem.W.kitOne K (.ref c_NoHand) (.ref c_NotRight) = some false)
    (kit_NoHand_NoStone : PySem.W.kitOne K (.ref c_NoHand) (.ref c_NoStone) = some false)
    (kit_NoHand_Stands : PySem.W.kitOne K (.ref c_NoHand) (.ref c_Stands) = some false)
    (kit_NoHand_Falls : PySem.W.kitOne K (.ref c_NoHand) (.ref c_Falls) = some false)
    (kit_NoHand_GameOver : PySem.W.kitOne K (.ref c_NoHand) (.ref c_GameOver) = some false)
    (kit_NoHand_Occupied : PySem.W.kitOne K (.ref c_NoHand) (.ref c_Occupied) = some false)
    (kit_NoHand_SelfTaking : PySem.W.kitOne K (.ref c_NoHand) (.ref c_SelfTaking) = some false)
    (kit_NoHand_ComesBack : PySem.W.kitOne K (.ref c_NoHand) (.ref c_ComesBack) = some false)
    (kit_NoHand_BadDeed : PySem.W.kitOne K (.ref c_NoHand) (.ref c_BadDeed) = some false)
    (kit_NoHand_NothingDone : PySem.W.kitOne K (.ref c_NoHand) (.ref c_NothingDone) = some false)
    (kit_NoHand_BadRow : PySem.W.kitOne K (.ref c_NoHand) (.ref c_BadRow) = some false)
    (kit_NoHand_VE : PySem.W.kitOne K (.ref c_NoHand) (.type "ValueError") = some true)
    (xL_NoHand : K.lookup c_NoHand = some (excClassObj nm_NoHand q_NoHand c_NoHand N_NoHand bs_NoHand bm_NoHand true sn_NoHand sub_NoHand ab_NoHand col_NoHand dd_NoHand m0_NoHand m1_NoHand m2_NoHand m3_NoHand m5_NoHand "ValueError.__new__")) (rv_NoHand : PySem.HandSPX.refsVE bm_NoHand = true)
    (sa_NoHand : PySem.W.findIn K (.ref c_NoHand) "__setattr__" = some (some (.builtin "object.__setattr__")))
    (ex_NoHand : PySem.W.subIn K (.ref c_NoHand) (.type "BaseException") = some true)
    (ty_NoHand : PySem.W.typeIn K (.ref c_NoHand) = some (.type "type"))
    (kC_NoHand : PySem.W.keepIn K (.ref c_NoHand) = true)
    (ini_NoHand : PySem.W.findIn K (.ref c_NoHand) "__init__" = some (some (.ref fI_NoHand)))
    (tf_NoHand : PySem.W.typeIn K (.ref fI_NoHand) = some (.type "function"))
    (ga_NoHand : PySem.W.findIn K (.ref c_NoHand) "__getattribute__" = some (some (.builtin "BaseException.__getattribute__")))
    (gg_NoHand : PySem.W.findIn K (.ref c_NoHand) "__getattr__" = some none)
    (hd_NoHand : PySem.W.hasDictIn K c_NoHand = true)
    (ha_NoHand : PySem.W.findIn K (.ref c_NoHand) "__class__" = some (some (.builtin "object.__class__")))
    (hn_NoHand : PySem.W.specialIn K (.builtin "object.__class__") "__get__" = some (some (.builtin "getset_descriptor.__get__")))
    (ht_NoHand : PySem.W.takesIn K (.builtin "object.__class__") = some true)
    (hm_NoHand : PySem.W.mroIn K c_NoHand (.type "object") = some true)
    (me_NoHand : PySem.W.exmOne K (.ref c_NoHand) (.ref c_NoHand) = some true)
    (lI_NoHand : K.lookup fI_NoHand = some ⟨ocI_NoHand, odI_NoHand, .func (PySem.W.fnOf "__init__" "NoHand.__init__" (defArgs s_iNoHand) (defBody s_iNoHand) (defScope s_iNoHand) .none kVI_NoHand dcI_NoHand pmI_NoHand anI_NoHand cdI_NoHand ctI_NoHand), slI_NoHand⟩)
    (cI_NoHand : PySem.W.codeIn K cdI_NoHand "NoHand.__init__" = true)
    (kI_NoHand : PySem.W.keepIn K (.ref fI_NoHand) = true)
    (no_NoHand_hand : PySem.W.findIn K (.ref c_NoHand) "hand" = some none)
    (kit_BadNumber_TworoomsError : PySem.W.kitOne K (.ref c_BadNumber) (.ref c_TworoomsError) = some true)
    (kit_BadNumber_BadNumber : PySem.W.kitOne K (.ref c_BadNumber) (.ref c_BadNumber) = some true)
    (kit_BadNumber_NoHand : PySem.W.kitOne K (.ref c_BadNumber) (.ref c_NoHand) = some false)
    (kit_BadNumber_BadName : PySem.W.kitOne K (.ref c_BadNumber) (.ref c_BadName) = some false)
    (kit_BadNumber_TooMany : PySem.W.kitOne K (.ref c_BadNumber) (.ref c_TooMany) = some false)
    (kit_BadNumber_NoEntry : PySem.W.kitOne K (.ref c_BadNumber) (.ref c_NoEntry) = some false)
    (kit_BadNumber_NoPlace : PySem.W.kitOne K (.ref c_BadNumber) (.ref c_NoPlace) = some false)
    (kit_BadNumber_SelfTie : PySem.W.kitOne K (.ref c_BadNumber) (.ref c_SelfTie) = some false)
    (kit_BadNumber_Repeated : PySem.W.kitOne K (.ref c_BadNumber) (.ref c_Repeated) = some false)
    (kit_BadNumber_BadSigns : PySem.W.kitOne K (.ref c_BadNumber) (.ref c_BadSigns) = some false)
    (kit_BadNumber_BadText : PySem.W.kitOne K (.ref c_BadNumber) (.ref c_BadText) = some false)
    (kit_BadNumber_BadTree : PySem.W.kitOne K (.ref c_BadNumber) (.ref c_BadTree) = some false)
    (kit_BadNumber_BadMap : PySem.W.kitOne K (.ref c_BadNumber) (.ref c_BadMap) = some false)
    (kit_BadNumber_NotRight : PySem.W.kitOne K (.ref c_BadNumber) (.ref c_NotRight) = some false)
    (kit_BadNumber_NoStone : PySem.W.kitOne K (.ref c_BadNumber) (.ref c_NoStone) = some false)
    (kit_BadNumber_Stands : PySem.W.kitOne K (.ref c_BadNumber) (.ref c_Stands) = some false)
    (kit_BadNumber_Falls : PySem.W.kitOne K (.ref c_BadNumber) (.ref c_Falls) = some false)
    (kit_BadNumber_GameOver : PySem.W.kitOne K (.ref c_BadNumber) (.ref c_GameOver) = some false)
    (kit_BadNumber_Occupied : PySem.W.kitOne K (.ref c_BadNumber) (.ref c_Occupied) = some false)
    (kit_BadNumber_SelfTaking : PySem.W.kitOne K (.ref c_BadNumber) (.ref c_SelfTaking) = some false)
    (kit_BadNumber_ComesBack : PySem.W.kitOne K (.ref c_BadNumber) (.ref c_ComesBack) = some false)
    (kit_BadNumber_BadDeed : PySem.W.kitOne K (.ref c_BadNumber) (.ref c_BadDeed) = some false)
    (kit_BadNumber_NothingDone : PySem.W.kitOne K (.ref c_BadNumber) (.ref c_NothingDone) = some false)
    (kit_BadNumber_BadRow : PySem.W.kitOne K (.ref c_BadNumber) (.ref c_BadRow) = some false)
    (kit_BadNumber_VE : PySem.W.kitOne K (.ref c_BadNumber) (.type "ValueError") = some true)
    (xL_BadNumber : K.lookup c_BadNumber = some (excClassObj nm_BadNumber q_BadNumber c_BadNumber N_BadNumber bs_BadNumber bm_BadNumber true sn_BadNumber sub_BadNumber ab_BadNumber col_BadNumber dd_BadNumber m0_BadNumber m1_BadNumber m2_BadNumber m3_BadNumber m5_BadNumber "ValueError.__new__")) (rv_BadNumber : PySem.HandSPX.refsVE bm_BadNumber = true)
    (sa_BadNumber : PySem.W.findIn K (.ref c_BadNumber) "__setattr__" = some (some (.builtin "object.__setattr__")))
    (ex_BadNumber : PySem.W.subIn K (.ref c_BadNumber) (.type "BaseException") = some true)
    (ty_BadNumber : PySem.W.typeIn K (.ref c_BadNumber) = some (.type "type"))
    (kC_BadNumber : PySem.W.keepIn K (.ref c_BadNumber) = true)
    (ini_BadNumber : PySem.W.findIn K (.ref c_BadNumber) "__init__" = some (some (.ref fI_BadNumber)))
    (tf_BadNumber : PySem.W.typeIn K (.ref fI_BadNumber) = some (.type "function"))
    (ga_BadNumber : PySem.W.findIn K (.ref c_BadNumber) "__getattribute__" = some (some (.builtin "BaseException.__getattribute__")))
    (gg_BadNumber : PySem.W.findIn K (.ref c_BadNumber) "__getattr__" = some none)
    (hd_BadNumber : PySem.W.hasDictIn K c_BadNumber = true)
    (ha_BadNumber : PySem.W.findIn K (.ref c_BadNumber) "__class__" = some (some (.builtin "object.__class__")))
    (hn_BadNumber : PySem.W.specialIn K (.builtin "object.__class__") "__get__" = some (some (.builtin "getset_descriptor.__get__")))
    (ht_BadNumber : PySem.W.takesIn K (.builtin "object.__class__") = some true)
    (hm_BadNumber : PySem.W.mroIn K c_BadNumber (.type "object") = some true)
    (me_BadNumber : PySem.W.exmOne K (.ref c_BadNumber) (.ref c_BadNumber) = some true)
    (lI_BadNumber : K.lookup fI_BadNumber = some ⟨ocI_BadNumber, odI_BadNumber, .func (PySem.W.fnOf "__init__" "BadNumber.__init__" (defArgs s_iBadNumber) (defBody s_iBadNumber) (defScope s_iBadNumber) .none kVI_BadNumber dcI_BadNumber pmI_BadNumber anI_BadNumber cdI_BadNumber ctI_BadNumber), slI_BadNumber⟩)
    (cI_BadNumber : PySem.W.codeIn K cdI_BadNumber "BadNumber.__init__" = true)
    (kI_BadNumber : PySem.W.keepIn K (.ref fI_BadNumber) = true)
    (no_BadNumber_what : PySem.W.findIn K (.ref c_BadNumber) "what" = some none)
    (no_BadNumber_value : PySem.W.findIn K (.ref c_BadNumber) "value" = some none)
    (g_DARK : PySem.W.nsIn K mainGlobals "DARK" = some (some (.str (Str.ofString "dark") t_DARK)))
    (g_LIGHT : PySem.W.nsIn K mainGlobals "LIGHT" = some (some (.str (Str.ofString "light") t_LIGHT)))
    (g_PASS : PySem.W.nsIn K mainGlobals "PASS" = some (some (.str (Str.ofString "-") t_PASS)))
    (g_FREE : PySem.W.nsIn K mainGlobals "FREE" = some (some (.str (Str.ofString ".") t_FREE)))
    (g_MOST_PLACES : PySem.W.nsIn K mainGlobals "MOST_PLACES" = some (some (.int 20 t_MOST_PLACES)))
    (g_MOST_TIES : PySem.W.nsIn K mainGlobals "MOST_TIES" = some (some (.int 60 t_MOST_TIES)))
    (g_MOST_DEEDS : PySem.W.nsIn K mainGlobals "MOST_DEEDS" = some (some (.int 60 t_MOST_DEEDS)))
    (g_MOST_NODES : PySem.W.nsIn K mainGlobals "MOST_NODES" = some (some (.int 60 t_MOST_NODES)))
    (g_MOST_DEPTH : PySem.W.nsIn K mainGlobals "MOST_DEPTH" = some (some (.int 12 t_MOST_DEPTH)))
    (g_MOST_BUDGET : PySem.W.nsIn K mainGlobals "MOST_BUDGET" = some (some (.int 400 t_MOST_BUDGET)))
    (g_MOST_BOARDS : PySem.W.nsIn K mainGlobals "MOST_BOARDS" = some (some (.int 400 t_MOST_BOARDS)))
    (g_MOST_SETS : PySem.W.nsIn K mainGlobals "MOST_SETS" = some (some (.int 150 t_MOST_SETS)))
    (g_MOST_ROWS : PySem.W.nsIn K mainGlobals "MOST_ROWS" = some (some (.int 60 t_MOST_ROWS)))
    (g_LETTERS : PySem.W.nsIn K mainGlobals "LETTERS" = some (some (.str (Str.ofString "abcdefghijklmnopqrstuvwxyz") t_LETTERS)))
    (g_DIGITS : PySem.W.nsIn K mainGlobals "DIGITS" = some (some (.str (Str.ofString "0123456789") t_DIGITS)))
    (g_LONGEST_NAME : PySem.W.nsIn K mainGlobals "LONGEST_NAME" = some (some (.int 6 t_LONGEST_NAME)))
    {aH aS aO : Addr} {dH : Option Addr} {tH1 tH2 u1 u2 u3 u4 v1 v2 v3 v4 : Tok} {nH nS nO : Nat} {slH : Array (Option Value)}
    (g_HANDS : PySem.W.nsIn K mainGlobals "HANDS" = some (some (.ref aH))) (l_HANDS : K.lookup aH = some ⟨.type "tuple", dH, .seq #[.str (Str.ofString "dark") tH1, .str (Str.ofString "light") tH2] nH, slH⟩)
    (g_SIGN : PySem.W.nsIn K mainGlobals "SIGN_OF_HAND" = some (some (.ref aS))) (l_SIGN : K.lookup aS = some ⟨.type "dict", none, .dict #[⟨PyData.keyHash w.params (Str.ofString "dark"), .str (Str.ofString "dark") u1, .str (Str.ofString "d") u2⟩, ⟨PyData.keyHash w.params (Str.ofString "light"), .str (Str.ofString "light") u3, .str (Str.ofString "l") u4⟩] nS, #[]⟩)
    (g_HAND : PySem.W.nsIn K mainGlobals "HAND_OF_SIGN" = some (some (.ref aO))) (l_HAND : K.lookup aO = some ⟨.type "dict", none, .dict #[⟨PyData.keyHash w.params (Str.ofString "d"), .str (Str.ofString "d") v1, .str (Str.ofString "dark") v2⟩, ⟨PyData.keyHash w.params (Str.ofString "l"), .str (Str.ofString "l") v3, .str (Str.ofString "light") v4⟩] nO, #[]⟩) (n_HAND : (aO == sysModules) = false)
    (z_len : PySem.W.nsIn K mainGlobals "len" = some none) (z_range : PySem.W.nsIn K mainGlobals "range" = some none) (z_abs : PySem.W.nsIn K mainGlobals "abs" = some none) (z_ord : PySem.W.nsIn K mainGlobals "ord" = some none) (z_min : PySem.W.nsIn K mainGlobals "min" = some none) (z_max : PySem.W.nsIn K mainGlobals "max" = some none) (z_all : PySem.W.nsIn K mainGlobals "all" = some none) (z_isinstance : PySem.W.nsIn K mainGlobals "isinstance" = some none) (z_int_ : PySem.W.nsIn K mainGlobals "int" = some none) (z_str_ : PySem.W.nsIn K mainGlobals "str" = some none) (z_bool_ : PySem.W.nsIn K mainGlobals "bool" = some none) (z_list_ : PySem.W.nsIn K mainGlobals "list" = some none) (z_tuple_ : PySem.W.nsIn K mainGlobals "tuple" = some none) (z_dict_ : PySem.W.nsIn K mainGlobals "dict" = some none) (z_VE : PySem.W.nsIn K mainGlobals "ValueError" = some none) :
    ∃ fd : FuncData, (∀ (s : Shared) (v : Value), BindsTo s fd ⟨[v], []⟩ [("script", v)]) ∧ ∀ base : Heap, K.In base → base.Ns mainGlobals mg → FnOk l.prog w K mg base CX0 10 fa fd ["script"] (spLaw K) := by
  have e := hfa.symm.trans (PySem.W.mg_of X G a_law)
  cases e
  have B : Bi mg := ⟨PySem.W.mg_none_of X G z_len, PySem.W.mg_none_of X G z_range, PySem.W.mg_none_of X G z_abs, PySem.W.mg_none_of X G z_ord, PySem.W.mg_none_of X G z_min, PySem.W.mg_none_of X G z_max, PySem.W.mg_none_of X G z_all, PySem.W.mg_none_of X G z_isinstance, PySem.W.mg_none_of X G z_int_, PySem.W.mg_none_of X G z_str_, PySem.W.mg_none_of X G z_bool_, PySem.W.mg_none_of X G z_list_, PySem.W.mg_none_of X G z_tuple_, PySem.W.mg_none_of X G z_dict_⟩
  have F_checkhand := fun_mk (st := s_checkhand) l_checkhand c_f_checkhand k_checkhand
  have D_checkhand : Dn K mg "check_hand" s_checkhand ["hand"] f_checkhand _ := ⟨F_checkhand, PySem.W.mg_of X G a_checkhand, F_checkhand.binds (ps := ["hand"]) fun _ _ _ _ _ _ us hl => match us, hl with | [_], _ => rfl⟩
  have F_otherhand := fun_mk (st := s_otherhand) l_otherhand c_f_otherhand k_otherhand
  have D_otherhand : Dn K mg "other_hand" s_otherhand ["hand"] f_otherhand _ := ⟨F_otherhand, PySem.W.mg_of X G a_otherhand, F_otherhand.binds (ps := ["hand"]) fun _ _ _ _ _ _ us hl => match us, hl with | [_], _ => rfl⟩
  have F_signof := fun_mk (st := s_signof) l_signof c_f_signof k_signof
  have D_signof : Dn K mg "sign_of" s_signof ["hand"] f_signof _ := ⟨F_signof, PySem.W.mg_of X G a_signof, F_signof.binds (ps := ["hand"]) fun _ _ _ _ _ _ us hl => match us, hl with | [_], _ => rfl⟩
  have F_handof := fun_mk (st := s_handof) l_handof c_f_handof k_handof
  have D_handof : Dn K mg "hand_of" s_handof ["sign"] f_handof _ := ⟨F_handof, PySem.W.mg_of X G a_handof, F_handof.binds (ps := ["sign"]) fun _ _ _ _ _ _ us hl => match us, hl with | [_], _ => rfl⟩
  have F_isname := fun_mk (st := s_isname) l_isname c_f_isname k_isname
  have D_isname : Dn K mg "is_name" s_isname ["text"] f_isname _ := ⟨F_isname, PySem.W.mg_of X G a_isname, F_isname.binds (ps := ["text"]) fun _ _ _ _ _ _ us hl => match us, hl with | [_], _ => rfl⟩
  have F_isnumber := fun_mk (st := s_isnumber) l_isnumber c_f_isnumber k_isnumber
  have D_isnumber : Dn K mg "is_number" s_isnumber ["value"] f_isnumber _ := ⟨F_isnumber, PySem.W.mg_of X G a_isnumber, F_isnumber.binds (ps := ["value"]) fun _ _ _ _ _ _ us hl => match us, hl with | [_], _ => rfl⟩
  have F_checknumber := fun_mk (st := s_checknumber) l_checknumber c_f_checknumber k_checknumber
  have D_checknumber : Dn K mg "check_number" s_checknumber ["what", "value", "least", "most"] f_checknumber _ := ⟨F_checknumber, PySem.W.mg_of X G a_checknumber, F_checknumber.binds (ps := ["what", "value", "least", "most"]) fun _ _ _ _ _ _ us hl => match us, hl with | [_, _, _, _], _ => rfl⟩
  have F_store := fun_mk (st := s_store) l_store c_f_store k_store
  have D_store : Dn K mg "_law_store" s_store ["script"] f_store _ := ⟨F_store, PySem.W.mg_of X G a_store, F_store.binds (ps := ["script"]) fun _ _ _ _ _ _ us hl => match us, hl with | [_], _ => rfl⟩
  have F_mixed := fun_mk (st := s_mixed) l_mixed c_f_mixed k_mixed
  have D_mixed : Dn K mg "_law_mixed" s_mixed ["number", "turn", "many"] f_mixed _ := ⟨F_mixed, PySem.W.mg_of X G a_mixed, F_mixed.binds (ps := ["number", "turn", "many"]) fun _ _ _ _ _ _ us hl => match us, hl with | [_, _, _], _ => rfl⟩
  have F_take := fun_mk (st := s_take) l_take c_f_take k_take
  have D_take : Dn K mg "_law_take" s_take ["store", "many"] f_take _ := ⟨F_take, PySem.W.mg_of X G a_take, F_take.binds (ps := ["store", "many"]) fun _ _ _ _ _ _ us hl => match us, hl with | [_, _], _ => rfl⟩
  have F_pick := fun_mk (st := s_pick) l_pick c_f_pick k_pick
  have D_pick : Dn K mg "_law_pick" s_pick ["store", "row"] f_pick _ := ⟨F_pick, PySem.W.mg_of X G a_pick, F_pick.binds (ps := ["store", "row"]) fun _ _ _ _ _ _ us hl => match us, hl with | [_, _], _ => rfl⟩
  have F_chance := fun_mk (st := s_chance) l_chance c_f_chance k_chance
  have D_chance : Dn K mg "_law_chance" s_chance ["store", "many"] f_chance _ := ⟨F_chance, PySem.W.mg_of X G a_chance, F_chance.binds (ps := ["store", "many"]) fun _ _ _ _ _ _ us hl => match us, hl with | [_, _], _ => rfl⟩
  have F_number := fun_mk (st := s_number) l_number c_f_number k_number
  have D_number : Dn K mg "_law_number" s_number ["store", "low", "high"] f_number _ := ⟨F_number, PySem.W.mg_of X G a_number, F_number.binds (ps := ["store", "low", "high"]) fun _ _ _ _ _ _ us hl => match us, hl with | [_, _, _], _ => rfl⟩
  have F_size := fun_mk (st := s_size) l_size c_f_size k_size
  have D_size : Dn K mg "_law_size" s_size ["store", "low", "high"] f_size _ := ⟨F_size, PySem.W.mg_of X G a_size, F_size.binds (ps := ["store", "low", "high"]) fun _ _ _ _ _ _ us hl => match us, hl with | [_, _, _], _ => rfl⟩
  have F_shuffled := fun_mk (st := s_shuffled) l_shuffled c_f_shuffled k_shuffled
  have D_shuffled : Dn K mg "_law_shuffled" s_shuffled ["store", "row"] f_shuffled _ := ⟨F_shuffled, PySem.W.mg_of X G a_shuffled, F_shuffled.binds (ps := ["store", "row"]) fun _ _ _ _ _ _ us hl => match us, hl with | [_, _], _ => rfl⟩
  have F_same := fun_mk (st := s_same) l_same c_f_same k_same
  have D_same : Dn K mg "_law_same" s_same ["one", "two"] f_same _ := ⟨F_same, PySem.W.mg_of X G a_same, F_same.binds (ps := ["one", "two"]) fun _ _ _ _ _ _ us hl => match us, hl with | [_, _], _ => rfl⟩
  have F_samerows := fun_mk (st := s_samerows) l_samerows c_f_samerows k_samerows
  have D_samerows : Dn K mg "_law_same_rows" s_samerows ["one", "two"] f_samerows _ := ⟨F_samerows, PySem.W.mg_of X G a_samerows, F_samerows.binds (ps := ["one", "two"]) fun _ _ _ _ _ _ us hl => match us, hl with | [_, _], _ => rfl⟩
  have F_signsoftexts := fun_mk (st := s_signsoftexts) l_signsoftexts c_f_signsoftexts k_signsoftexts
  have D_signsoftexts : Dn K mg "_law_signs_of_texts" s_signsoftexts [] f_signsoftexts _ := ⟨F_signsoftexts, PySem.W.mg_of X G a_signsoftexts, F_signsoftexts.binds (ps := []) fun _ _ _ _ _ _ us hl => match us, hl with | [], _ => rfl⟩
  have F_text := fun_mk (st := s_text) l_text c_f_text k_text
  have D_text : Dn K mg "_law_text" s_text ["store", "high"] f_text _ := ⟨F_text, PySem.W.mg_of X G a_text, F_text.binds (ps := ["store", "high"]) fun _ _ _ _ _ _ us hl => match us, hl with | [_, _], _ => rfl⟩
  have F_name := fun_mk (st := s_name) l_name c_f_name k_name
  have D_name : Dn K mg "_law_name" s_name ["store"] f_name _ := ⟨F_name, PySem.W.mg_of X G a_name, F_name.binds (ps := ["store"]) fun _ _ _ _ _ _ us hl => match us, hl with | [_], _ => rfl⟩
  have F_badname := fun_mk (st := s_badname) l_badname c_f_badname k_badname
  have D_badname : Dn K mg "_law_bad_name" s_badname ["store"] f_badname _ := ⟨F_badname, PySem.W.mg_of X G a_badname, F_badname.binds (ps := ["store"]) fun _ _ _ _ _ _ us hl => match us, hl with | [_], _ => rfl⟩
  have F_kinds := fun_mk (st := s_kinds) l_kinds c_f_kinds k_kinds
  have D_kinds : Dn K mg "_law_kinds" s_kinds ["error"] f_kinds _ := ⟨F_kinds, PySem.W.mg_of X G a_kinds, F_kinds.binds (ps := ["error"]) fun _ _ _ _ _ _ us hl => match us, hl with | [_], _ => rfl⟩
  have F_due := fun_mk (st := s_due) l_due c_f_due k_due
  have D_due : Dn K mg "_law_due" s_due ["kind", "values"] f_due _ := ⟨F_due, PySem.W.mg_of X G a_due, F_due.binds (ps := ["kind", "values"]) fun _ _ _ _ _ _ us hl => match us, hl with | [_, _], _ => rfl⟩
  have F_named := fun_mk (st := s_named) l_named c_f_named k_named
  have D_named : Dn K mg "_law_named" s_named ["word"] f_named _ := ⟨F_named, PySem.W.mg_of X G a_named, F_named.binds (ps := ["word"]) fun _ _ _ _ _ _ us hl => match us, hl with | [_], _ => rfl⟩
  have F_anytext := fun_mk (st := s_anytext) l_anytext c_f_anytext k_anytext
  have D_anytext : Dn K mg "_law_any_text" s_anytext ["store"] f_anytext _ := ⟨F_anytext, PySem.W.mg_of X G a_anytext, F_anytext.binds (ps := ["store"]) fun _ _ _ _ _ _ us hl => match us, hl with | [_], _ => rfl⟩
  have F_near := fun_mk (st := s_near) l_near c_f_near k_near
  have D_near : Dn K mg "_law_near" s_near ["store", "low", "high"] f_near _ := ⟨F_near, PySem.W.mg_of X G a_near, F_near.binds (ps := ["store", "low", "high"]) fun _ _ _ _ _ _ us hl => match us, hl with | [_, _, _], _ => rfl⟩
  have F_toldother := fun_mk (st := s_toldother) l_toldother c_f_toldother k_toldother
  have D_toldother : Dn K mg "_law_told_other" s_toldother ["word"] f_toldother _ := ⟨F_toldother, PySem.W.mg_of X G a_toldother, F_toldother.binds (ps := ["word"]) fun _ _ _ _ _ _ us hl => match us, hl with | [_], _ => rfl⟩
  have F_toldsign := fun_mk (st := s_toldsign) l_toldsign c_f_toldsign k_toldsign
  have D_toldsign : Dn K mg "_law_told_sign" s_toldsign ["word"] f_toldsign _ := ⟨F_toldsign, PySem.W.mg_of X G a_toldsign, F_toldsign.binds (ps := ["word"]) fun _ _ _ _ _ _ us hl => match us, hl with | [_], _ => rfl⟩
  have F_toldcheck := fun_mk (st := s_toldcheck) l_toldcheck c_f_toldcheck k_toldcheck
  have D_toldcheck : Dn K mg "_law_told_check" s_toldcheck ["word", "thing", "low", "high"] f_toldcheck _ := ⟨F_toldcheck, PySem.W.mg_of X G a_toldcheck, F_toldcheck.binds (ps := ["word", "thing", "low", "high"]) fun _ _ _ _ _ _ us hl => match us, hl with | [_, _, _, _], _ => rfl⟩
  have F_textgood := fun_mk (st := s_textgood) l_textgood c_f_textgood k_textgood
  have D_textgood : Dn K mg "_law_text_good" s_textgood ["word"] f_textgood _ := ⟨F_textgood, PySem.W.mg_of X G a_textgood, F_textgood.binds (ps := ["word"]) fun _ _ _ _ _ _ us hl => match us, hl with | [_], _ => rfl⟩
  have F_numbergood := fun_mk (st := s_numbergood) l_numbergood c_f_numbergood k_numbergood
  have D_numbergood : Dn K mg "_law_number_good" s_numbergood ["word", "thing", "number", "low", "high"] f_numbergood _ := ⟨F_numbergood, PySem.W.mg_of X G a_numbergood, F_numbergood.binds (ps := ["word", "thing", "number", "low", "high"]) fun _ _ _ _ _ _ us hl => match us, hl with | [_, _, _, _, _], _ => rfl⟩
  have F_constants := fun_mk (st := s_constants) l_constants c_f_constants k_constants
  have D_constants : Dn K mg "_law_constants" s_constants [] f_constants _ := ⟨F_constants, PySem.W.mg_of X G a_constants, F_constants.binds (ps := []) fun _ _ _ _ _ _ us hl => match us, hl with | [], _ => rfl⟩
  have F_law := fun_mk (st := s_law) l_law c_f_law k_law
  have D_law : Dn K mg "law" s_law ["script"] _ _ := ⟨F_law, PySem.W.mg_of X G a_law, F_law.binds (ps := ["script"]) fun _ _ _ _ _ _ us hl => match us, hl with | [_], _ => rfl⟩
  have FI_NoHand := fun_mk (st := s_iNoHand) lI_NoHand cI_NoHand kI_NoHand
  have oex_NoHand : OexC K c_NoHand := ⟨⟨_, _, _, _, _, _, _, _, _, _, _, _, _, _, _, xL_NoHand, rv_NoHand⟩, sa_NoHand, ex_NoHand, ty_NoHand, kC_NoHand⟩
  have ex_n_NoHand : Exn K mg "NoHand" c_NoHand fI_NoHand := ⟨oex_NoHand, PySem.W.mg_of X G e_NoHand, ini_NoHand, tf_NoHand⟩
  have xf_NoHand : XfC K c_NoHand := ⟨ga_NoHand, gg_NoHand, ex_NoHand, hd_NoHand⟩
  have xc_NoHand : ExcC K c_NoHand := ⟨ga_NoHand, gg_NoHand, ex_NoHand, hd_NoHand, ha_NoHand, hn_NoHand, ht_NoHand, hm_NoHand⟩
  have bI_NoHand := FI_NoHand.binds (ps := ["self", "hand"]) fun _ _ _ _ _ _ us hl => match us, hl with | [_, _], _ => rfl
  have kn_NoHand : ∀ x ∈ excs, Kn K mg c_NoHand "NoHand" x := List.forall_mem_cons.2 ⟨⟨_, PySem.W.mg_of X G e_TworoomsError, kit_NoHand_TworoomsError⟩, List.forall_mem_cons.2 ⟨⟨_, PySem.W.mg_of X G e_BadNumber, kit_NoHand_BadNumber⟩, List.forall_mem_cons.2 ⟨⟨_, PySem.W.mg_of X G e_NoHand, kit_NoHand_NoHand⟩, List.forall_mem_cons.2 ⟨⟨_, PySem.W.mg_of X G e_BadName, kit_NoHand_BadName⟩, List.forall_mem_cons.2 ⟨⟨_, PySem.W.mg_of X G e_TooMany, kit_NoHand_TooMany⟩, List.forall_mem_cons.2 ⟨⟨_, PySem.W.mg_of X G e_NoEntry, kit_NoHand_NoEntry⟩, List.forall_mem_cons.2 ⟨⟨_, PySem.W.mg_of X G e_NoPlace, kit_NoHand_NoPlace⟩, List.forall_mem_cons.2 ⟨⟨_, PySem.W.mg_of X G e_SelfTie, kit_NoHand_SelfTie⟩, List.forall_mem_cons.2 ⟨⟨_, PySem.W.mg_of X G e_Repeated, kit_NoHand_Repeated⟩, List.forall_mem_cons.2 ⟨⟨_, PySem.W.mg_of X G e_BadSigns, kit_NoHand_BadSigns⟩, List.forall_mem_cons.2 ⟨⟨_, PySem.W.mg_of X G e_BadText, kit_NoHand_BadText⟩, List.forall_mem_cons.2 ⟨⟨_, PySem.W.mg_of X G e_BadTree, kit_NoHand_BadTree⟩, List.forall_mem_cons.2 ⟨⟨_, PySem.W.mg_of X G e_BadMap, kit_NoHand_BadMap⟩, List.forall_mem_cons.2 ⟨⟨_, PySem.W.mg_of X G e_NotRight, kit_NoHand_NotRight⟩, List.forall_mem_cons.2 ⟨⟨_, PySem.W.mg_of X G e_NoStone, kit_NoHand_NoStone⟩, List.forall_mem_cons.2 ⟨⟨_, PySem.W.mg_of X G e_Stands, kit_NoHand_Stands⟩, List.forall_mem_cons.2 ⟨⟨_, PySem.W.mg_of X G e_Falls, kit_NoHand_Falls⟩, List.forall_mem_cons.2 ⟨⟨_, PySem.W.mg_of X G e_GameOver, kit_NoHand_GameOver⟩, List.forall_mem_cons.2 ⟨⟨_, PySem.W.mg_of X G e_Occupied, kit_NoHand_Occupied⟩, List.forall_mem_cons.2 ⟨⟨_, PySem.W.mg_of X G e_SelfTaking, kit_NoHand_SelfTaking⟩, List.forall_mem_cons.2 ⟨⟨_, PySem.W.mg_of X G e_ComesBack, kit_NoHand_ComesBack⟩, List.forall_mem_cons.2 ⟨⟨_, PySem.W.mg_of X G e_BadDeed, kit_NoHand_BadDeed⟩, List.forall_mem_cons.2 ⟨⟨_, PySem.W.mg_of X G e_NothingDone, kit_NoHand_NothingDone⟩, List.forall_mem_cons.2 ⟨⟨_, PySem.W.mg_of X G e_BadRow, kit_NoHand_BadRow⟩, fun _ h => nomatch h⟩⟩⟩⟩⟩⟩⟩⟩⟩⟩⟩⟩⟩⟩⟩⟩⟩⟩⟩⟩⟩⟩⟩⟩
  have FI_BadNumber := fun_mk (st := s_iBadNumber) lI_BadNumber cI_BadNumber kI_BadNumber
  have oex_BadNumber : OexC K c_BadNumber := ⟨⟨_, _, _, _, _, _, _, _, _, _, _, _, _, _, _, xL_BadNumber, rv_BadNumber⟩, sa_BadNumber, ex_BadNumber, ty_BadNumber, kC_BadNumber⟩
  have ex_n_BadNumber : Exn K mg "BadNumber" c_BadNumber fI_BadNumber := ⟨oex_BadNumber, PySem.W.mg_of X G e_BadNumber, ini_BadNumber, tf_BadNumber⟩
  have xf_BadNumber : XfC K c_BadNumber := ⟨ga_BadNumber, gg_BadNumber, ex_BadNumber, hd_BadNumber⟩
  have xc_BadNumber : ExcC K c_BadNumber := ⟨ga_BadNumber, gg_BadNumber, ex_BadNumber, hd_BadNumber, ha_BadNumber, hn_BadNumber, ht_BadNumber, hm_BadNumber⟩
  have bI_BadNumber := FI_BadNumber.binds (ps := ["self", "what", "value"]) fun _ _ _ _ _ _ us hl => match us, hl with | [_, _, _], _ => rfl
  have kn_BadNumber : ∀ x ∈ excs, Kn K mg c_BadNumber "BadNumber" x := List.forall_mem_cons.2 ⟨⟨_, PySem.W.mg_of X G e_TworoomsError, kit_BadNumber_TworoomsError⟩, List.forall_mem_cons.2 ⟨⟨_, PySem.W.mg_of X G e_BadNumber, kit_BadNumber_BadNumber⟩, List.forall_mem_cons.2 ⟨⟨_, PySem.W.mg_of X G e_NoHand, kit_BadNumber_NoHand⟩, List.forall_mem_cons.2 ⟨⟨_, PySem.W.mg_of X G e_BadName, kit_BadNumber_BadName⟩, List.forall_mem_cons.2 ⟨⟨_, PySem.W.mg_of X G e_TooMany, kit_BadNumber_TooMany⟩, List.forall_mem_cons.2 ⟨⟨_, PySem.W.mg_of X G e_NoEntry, kit_BadNumber_NoEntry⟩, List.forall_mem_cons.2 ⟨⟨_, PySem.W.mg_of X G e_NoPlace, kit_BadNumber_NoPlace⟩, List.forall_mem_cons.2 ⟨⟨_, PySem.W.mg_of X G e_SelfTie, kit_BadNumber_SelfTie⟩, List.forall_mem_cons.2 ⟨⟨_, PySem.W.mg_of X G e_Repeated, kit_BadNumber_Repeated⟩, List.forall_mem_cons.2 ⟨⟨_, PySem.W.mg_of X G e_BadSigns, kit_BadNumber_BadSigns⟩, List.forall_mem_cons.2 ⟨⟨_, PySem.W.mg_of X G e_BadText, kit_BadNumber_BadText⟩, List.forall_mem_cons.2 ⟨⟨_, PySem.W.mg_of X G e_BadTree, kit_BadNumber_BadTree⟩, List.forall_mem_cons.2 ⟨⟨_, PySem.W.mg_of X G e_BadMap, kit_BadNumber_BadMap⟩, List.forall_mem_cons.2 ⟨⟨_, PySem.W.mg_of X G e_NotRight, kit_BadNumber_NotRight⟩, List.forall_mem_cons.2 ⟨⟨_, PySem.W.mg_of X G e_NoStone, kit_BadNumber_NoStone⟩, List.forall_mem_cons.2 ⟨⟨_, PySem.W.mg_of X G e_Stands, kit_BadNumber_Stands⟩, List.forall_mem_cons.2 ⟨⟨_, PySem.W.mg_of X G e_Falls, kit_BadNumber_Falls⟩, List.forall_mem_cons.2 ⟨⟨_, PySem.W.mg_of X G e_GameOver, kit_BadNumber_GameOver⟩, List.forall_mem_cons.2 ⟨⟨_, PySem.W.mg_of X G e_Occupied, kit_BadNumber_Occupied⟩, List.forall_mem_cons.2 ⟨⟨_, PySem.W.mg_of X G e_SelfTaking, kit_BadNumber_SelfTaking⟩, List.forall_mem_cons.2 ⟨⟨_, PySem.W.mg_of X G e_ComesBack, kit_BadNumber_ComesBack⟩, List.forall_mem_cons.2 ⟨⟨_, PySem.W.mg_of X G e_BadDeed, kit_BadNumber_BadDeed⟩, List.forall_mem_cons.2 ⟨⟨_, PySem.W.mg_of X G e_NothingDone, kit_BadNumber_NothingDone⟩, List.forall_mem_cons.2 ⟨⟨_, PySem.W.mg_of X G e_BadRow, kit_BadNumber_BadRow⟩, fun _ h => nomatch h⟩⟩⟩⟩⟩⟩⟩⟩⟩⟩⟩⟩⟩⟩⟩⟩⟩⟩⟩⟩⟩⟩⟩⟩
  have kH : KX.KTup K aH (hands.map V.str) := ⟨_, _, _, l_HANDS, rfl, rfl, Nat.le_of_ble_eq_true rfl, .cons ⟨_, rfl⟩ (.cons ⟨_, rfl⟩ .nil)⟩
  have cst : Cst mg aH := {DARK := ⟨_, PySem.W.mg_of X G g_DARK⟩, LIGHT := ⟨_, PySem.W.mg_of X G g_LIGHT⟩, HANDS := PySem.W.mg_of X G g_HANDS, PASS := ⟨_, PySem.W.mg_of X G g_PASS⟩, FREE := ⟨_, PySem.W.mg_of X G g_FREE⟩, MOST_PLACES := ⟨_, PySem.W.mg_of X G g_MOST_PLACES⟩, MOST_TIES := ⟨_, PySem.W.mg_of X G g_MOST_TIES⟩, MOST_DEEDS := ⟨_, PySem.W.mg_of X G g_MOST_DEEDS⟩, MOST_NODES := ⟨_, PySem.W.mg_of X G g_MOST_NODES⟩, MOST_DEPTH := ⟨_, PySem.W.mg_of X G g_MOST_DEPTH⟩, MOST_BUDGET := ⟨_, PySem.W.mg_of X G g_MOST_BUDGET⟩, MOST_BOARDS := ⟨_, PySem.W.mg_of X G g_MOST_BOARDS⟩, MOST_SETS := ⟨_, PySem.W.mg_of X G g_MOST_SETS⟩, MOST_ROWS := ⟨_, PySem.W.mg_of X G g_MOST_ROWS⟩}
  have at_dark : KDct K w aS (Str.ofString "dark") (.str (Str.ofString "d")) := ⟨_, _, _, l_SIGN, ⟨⟨_, _, rfl, rfl⟩, ⟨_, _, rfl, rfl⟩, True.intro⟩, by unfold PySem.W.nsIn; rw [l_SIGN]; rfl, ⟨_, rfl⟩⟩
  have at_light : KDct K w aS (Str.ofString "light") (.str (Str.ofString "l")) := ⟨_, _, _, l_SIGN, ⟨⟨_, _, rfl, rfl⟩, ⟨_, _, rfl, rfl⟩, True.intro⟩, by unfold PySem.W.nsIn; rw [l_SIGN]; rfl, ⟨_, rfl⟩⟩
  have wr : Writ K w aO := ⟨_, _, l_HAND, ⟨⟨_, _, rfl, rfl⟩, ⟨_, _, rfl, rfl⟩, True.intro⟩, n_HAND⟩
  have kb : KBinds K _ ["what", "value", "least", "most"] ["least", "most"] kwG kwG := kb_two (fd := PySem.W.fnOf "check_number" "check_number" (defArgs s_checknumber) (defBody s_checknumber) (defScope s_checknumber) .none kV_checknumber dc_checknumber pm_checknumber an_checknumber cd_checknumber ct_checknumber) (fun _ _ _ _ => rfl) rfl
  refine ⟨PySem.W.fnOf "law" "law" (defArgs s_law) (defBody s_law) (defScope s_law) .none kV_law dc_law pm_law an_law cd_law ct_law, fun s v => .of_eq rfl, fun base _ _ => ?_⟩
  have GI_NoHand := ok_iNoHand (P := l.prog) (w := w) (mg := mg) (base := base) oex_NoHand no_NoHand_hand FI_NoHand
  have G_kinds_NoHand := ok_kinds (P := l.prog) (w := w) (base := base) B (PySem.W.mg_none_of X G z_VE) D_kinds xc_NoHand kn_NoHand kit_NoHand_VE
  have GI_BadNumber := ok_iBadNumber (P := l.prog) (w := w) (mg := mg) (base := base) oex_BadNumber no_BadNumber_what no_BadNumber_value FI_BadNumber
  have G_kinds_BadNumber := ok_kinds (P := l.prog) (w := w) (base := base) B (PySem.W.mg_none_of X G z_VE) D_kinds xc_BadNumber kn_BadNumber kit_BadNumber_VE
  have G_take := ok_take (P := l.prog) (w := w) (base := base) B D_take D_mixed
  have G_pick := ok_pick (P := l.prog) (w := w) (base := base) B D_pick D_take G_take
  have G_pickL := ok_pickL (P := l.prog) (w := w) (base := base) B D_pick D_take G_take
  have G_chance := ok_chance (P := l.prog) (w := w) (base := base) B D_chance D_take G_take
  have G_number := ok_number (P := l.prog) (w := w) (base := base) B D_number D_take D_chance G_take G_chance
  have G_size := ok_size (P := l.prog) (w := w) (base := base) B D_size D_take G_take
  have G_shuf := ok_shuffled (P := l.prog) (w := w) (base := base) B D_shuffled D_take G_take
  have G_signs := ok_signs (P := l.prog) (w := w) (base := base) B D_signsoftexts
  have G_text := ok_text (P := l.prog) (w := w) (base := base) B D_text D_take D_size D_pick D_signsoftexts G_take G_size G_pick G_signs
  have G_name := ok_name (P := l.prog) (w := w) (base := base) B D_name D_number D_pick G_number G_pick
  have G_badname := ok_badname (P := l.prog) (w := w) (base := base) B D_badname D_name D_take D_pick G_name G_take G_pick
  have G_any := ok_anytext (P := l.prog) (w := w) (base := base) B D_anytext D_name D_take D_pick D_number D_badname D_text D_signsoftexts G_name G_take G_pick G_pickL G_number G_badname G_text G_signs
  have G_near := ok_near (P := l.prog) (w := w) (base := base) B D_near D_take D_pick D_number G_take G_pickL G_number
  have G_isn := ok_isnumber (P := l.prog) (w := w) (base := base) B D_isnumber
  have G_isname := ok_isname (P := l.prog) (w := w) (base := base) B D_isname (PySem.W.mg_of X G g_LONGEST_NAME) (PySem.W.mg_of X G g_LETTERS) (PySem.W.mg_of X G g_DIGITS)
  have G_named := ok_named (P := l.prog) (w := w) (base := base) B D_named
  have G_check := ok_checkhand (P := l.prog) (w := w) (base := base) ex_n_NoHand bI_NoHand GI_NoHand D_checkhand (PySem.W.mg_of X G g_HANDS) (fun _ => .inr kH)
  have G_other := ok_otherhand (P := l.prog) (w := w) (base := base) D_otherhand D_checkhand (PySem.W.mg_of X G g_DARK) (PySem.W.mg_of X G g_LIGHT) G_check
  have G_sign := ok_signof (P := l.prog) (w := w) (base := base) D_signof D_checkhand (PySem.W.mg_of X G g_SIGN) at_dark at_light G_check
  have G_handof := ok_handof (P := l.prog) (w := w) (base := base) D_handof (PySem.W.mg_of X G g_HAND) wr (says_of l_HAND)
  have G_to := ok_toldother (P := l.prog) (w := w) (base := base) B D_toldother D_otherhand D_kinds ex_n_NoHand xf_NoHand no_NoHand_hand me_NoHand G_other (G_kinds_NoHand)
  have G_ts := ok_toldsign (P := l.prog) (w := w) (base := base) B D_toldsign D_signof D_kinds ex_n_NoHand xf_NoHand no_NoHand_hand me_NoHand G_sign (G_kinds_NoHand)
  have G_cn := ok_checknumber (P := l.prog) (w := w) (base := base) ex_n_BadNumber bI_BadNumber GI_BadNumber D_checknumber D_isnumber G_isn
  have G_tc := ok_toldcheck (P := l.prog) (w := w) (base := base) D_toldcheck D_checknumber D_kinds kb ex_n_BadNumber xf_BadNumber no_BadNumber_what no_BadNumber_value me_BadNumber G_cn G_kinds_BadNumber
  have G_due := ok_due (P := l.prog) (w := w) (base := base) D_due
  have G_same := same_all (P := l.prog) (w := w) (base := base) B D_same D_samerows 3
  have G_sameX := KX.same_all (P := l.prog) (w := w) (base := base) B D_same D_samerows 3
  have G_tg := ok_textgood (P := l.prog) (w := w) (base := base) B D_textgood D_due D_toldother D_toldsign D_handof D_isname D_named D_same G_due G_to G_ts G_handof G_isname G_named G_same
  have G_ng := ok_numbergood (P := l.prog) (w := w) (base := base) B D_numbergood D_due D_isnumber D_toldcheck D_same G_due G_isn G_tc G_same
  have G_co := ok_constants (P := l.prog) (w := w) (base := base) B D_constants D_same cst kH G_sameX
  have G_store := ok_store (P := l.prog) (w := w) (base := base) B D_store
  exact ok_law B D_law D_store D_anytext D_shuffled D_number D_near D_pick D_textgood D_numbergood D_constants G_store G_any G_shuf G_number G_near G_pickL G_tg G_ng G_co
end K01
open PySem PySem.W PyProof.Rows
set_option maxRecDepth 100000 in
set_option maxHeartbeats 0 in
theorem PySem.Challenge.cw_tworooms_k00_names_hands_and_numbers_holds : PySem.Challenge.rw_tworooms_k00_names_hands_and_numbers.Holds := by
  w_on; o_law; k_head; (case hw => w_witness2)
  k_fill
  refine L2.walk_of (l := PySem.Challenge.rw_tworooms_k00_names_hands_and_numbers) (n := 63) (k := 10) (x := "script") (CX := fun _ => L2.CX0) (sp := fun w => K01.spLaw _) rfl (by decide) rfl ⟨rfl, by decide, by decide⟩ (fun w h Y => PySem.W.kIn_of Y) ?F (fun _ _ a ns hl _ hS => ⟨a, ns, rfl, hS, hl, fun _ => rfl⟩) (fun _ _ _ _ _ h => h)
  case F =>
    intro w mg fa h KX G hmg
    refine' K01.all_mk KX G hmg ?a_checkhand ?l_checkhand ?c_f_checkhand ?k_checkhand ?a_otherhand ?l_otherhand ?c_f_otherhand ?k_otherhand ?a_signof ?l_signof ?c_f_signof ?k_signof ?a_handof ?l_handof ?c_f_handof ?k_handof ?a_isname ?l_isname ?c_f_isname ?k_isname ?a_isnumber ?l_isnumber ?c_f_isnumber ?k_isnumber ?a_checknumber ?l_checknumber ?c_f_checknumber ?k_checknumber ?a_store ?l_store ?c_f_store ?k_store ?a_mixed ?l_mixed ?c_f_mixed ?k_mixed ?a_take ?l_take ?c_f_take ?k_take ?a_pick ?l_pick ?c_f_pick ?k_pick ?a_chance ?l_chance ?c_f_chance ?k_chance ?a_number ?l_number ?c_f_number ?k_number ?a_size ?l_size ?c_f_size ?k_size ?a_shuffled ?l_shuffled ?c_f_shuffled ?k_shuffled ?a_same ?l_same ?c_f_same ?k_same ?a_samerows ?l_samerows ?c_f_samerows ?k_samerows ?a_signsoftexts ?l_signsoftexts ?c_f_signsoftexts ?k_signsoftexts ?a_text ?l_text ?c_f_text ?k_text ?a_name ?l_name ?c_f_name ?k_name ?a_badname ?l_badname ?c_f_badname ?k_badname ?a_kinds ?l_kinds ?c_f_kinds ?k_kinds ?a_due ?l_due ?c_f_due ?k_due ?a_named ?l_named ?c_f_named ?k_named ?a_anytext ?l_anytext ?c_f_anytext ?k_anytext ?a_near ?l_near ?c_f_near ?k_near ?a_toldother ?l_toldother ?c_f_toldother ?k_toldother ?a_toldsign ?l_toldsign ?c_f_toldsign ?k_toldsign ?a_toldcheck ?l_toldcheck ?c_f_toldcheck ?k_toldcheck ?a_textgood ?l_textgood ?c_f_textgood ?k_textgood ?a_numbergood ?l_numbergood ?c_f_numbergood ?k_numbergood ?a_constants ?l_constants ?c_f_constants ?k_constants ?a_law ?l_law ?c_f_law ?k_law ?e_TworoomsError ?e_BadNumber ?e_NoHand ?e_BadName ?e_TooMany ?e_NoEntry ?e_NoPlace ?e_SelfTie ?e_Repeated ?e_BadSigns ?e_BadText ?e_BadTree ?e_BadMap ?e_NotRight ?e_NoStone ?e_Stands ?e_Falls ?e_GameOver ?e_Occupied ?e_SelfTaking ?e_ComesBack ?e_BadDeed ?e_NothingDone ?e_BadRow ?kit_NoHand_TworoomsError ?kit_NoHand_BadNumber ?kit_NoHand_NoHand ?kit_NoHand_BadName ?kit_NoHand_TooMany ?kit_NoHand_NoEntry ?kit_NoHand_NoPlace ?kit_NoHand_SelfTie ?kit_NoHand_Repeated ?kit_NoHand_BadSigns ?kit_NoHand_BadText ?kit_NoHand_BadTree ?kit_NoHand_BadMap ?kit_NoHand_NotRight ?kit_NoHand_NoStone ?kit_NoHand_Stands ?kit_NoHand_Falls ?kit_NoHand_GameOver ?kit_NoHand_Occupied ?kit_NoHand_SelfTaking ?kit_NoHand_ComesBack ?kit_NoHand_BadDeed ?kit_NoHand_NothingDone ?kit_NoHand_BadRow ?kit_NoHand_VE ?xL_NoHand ?rv_NoHand ?sa_NoHand ?ex_NoHand ?ty_NoHand ?kC_NoHand ?ini_NoHand ?tf_NoHand ?ga_NoHand ?gg_NoHand ?hd_NoHand ?ha_NoHand ?hn_NoHand ?ht_NoHand ?hm_NoHand ?me_NoHand ?lI_NoHand ?cI_NoHand ?kI_NoHand ?no_NoHand_hand ?kit_BadNumber_TworoomsError ?kit_BadNumber_BadNumber ?kit_BadNumber_NoHand ?kit_BadNumber_BadName ?kit_BadNumber_TooMany ?kit_BadNumber_NoEntry ?kit_BadNumber_NoPlace ?kit_BadNumber_SelfTie ?kit_BadNumber_Repeated ?kit_BadNumber_BadSigns ?kit_BadNumber_BadText ?kit_BadNumber_BadTree ?kit_BadNumber_BadMap ?kit_BadNumber_NotRight ?kit_BadNumber_NoStone ?kit_BadNumber_Stands ?kit_BadNumber_Falls ?kit_BadNumber_GameOver ?kit_BadNumber_Occupied ?kit_BadNumber_SelfTaking ?kit_BadNumber_ComesBack ?kit_BadNumber_BadDeed ?kit_BadNumber_NothingDone ?kit_BadNumber_BadRow ?kit_BadNumber_VE ?xL_BadNumber ?rv_BadNumber ?sa_BadNumber ?ex_BadNumber ?ty_BadNumber ?kC_BadNumber ?ini_BadNumber ?tf_BadNumber ?ga_BadNumber ?gg_BadNumber ?hd_BadNumber ?ha_BadNumber ?hn_BadNumber ?ht_BadNumber ?hm_BadNumber ?me_BadNumber ?lI_BadNumber ?cI_BadNumber ?kI_BadNumber ?no_BadNumber_what ?no_BadNumber_value ?g_DARK ?g_LIGHT ?g_PASS ?g_FREE ?g_MOST_PLACES ?g_MOST_TIES ?g_MOST_DEEDS ?g_MOST_NODES ?g_MOST_DEPTH ?g_MOST_BUDGET ?g_MOST_BOARDS ?g_MOST_SETS ?g_MOST_ROWS ?g_LETTERS ?g_DIGITS ?g_LONGEST_NAME ?g_HANDS ?l_HANDS ?g_SIGN ?l_SIGN ?g_HAND ?l_HAND ?n_HAND ?z_len ?z_range ?z_abs ?z_ord ?z_min ?z_max ?z_all ?z_isinstance ?z_int_ ?z_str_ ?z_bool_ ?z_list_ ?z_tuple_ ?z_dict_ ?z_VE
    (case a_checkhand => k_is)
    (case l_checkhand => k_is)
    (case c_f_checkhand => k_is)
    (case k_checkhand => k_is)
    (case a_otherhand => k_is)
    (case l_otherhand => k_is)
    (case c_f_otherhand => k_is)
    (case k_otherhand => k_is)
    (case a_signof => k_is)
    (case l_signof => k_is)
    (case c_f_signof => k_is)
    (case k_signof => k_is)
    (case a_handof => k_is)
    (case l_handof => k_is)
    (case c_f_handof => k_is)
    (case k_handof => k_is)
    (case a_isname => k_is)
    (case l_isname => k_is)
    (case c_f_isname => k_is)
    (case k_isname => k_is)
    (case a_isnumber => k_is)
    (case l_isnumber => k_is)
    (case c_f_isnumber => k_is)
    (case k_isnumber => k_is)
    (case a_checknumber => k_is)
    (case l_checknumber => k_is)
    (case c_f_checknumber => k_is)
    (case k_checknumber => k_is)
    (case a_store => k_is)
    (case l_store => k_is)
    (case c_f_store => k_is)
    (case k_store => k_is)
    (case a_mixed => k_is)
    (case l_mixed => k_is)
    (case c_f_mixed => k_is)
    (case k_mixed => k_is)
    (case a_take => k_is)
    (case l_take => k_is)
    (case c_f_take => k_is)
    (case k_take => k_is)
    (case a_pick => k_is)
    (case l_pick => k_is)
    (case c_f_pick => k_is)
    (case k_pick => k_is)
    (case a_chance => k_is)
    (case l_chance => k_is)
    (case c_f_chance => k_is)
    (case k_chance => k_is)
    (case a_number => k_is)
    (case l_number => k_is)
    (case c_f_number => k_is)
    (case k_number => k_is)
    (case a_size => k_is)
    (case l_size => k_is)
    (case c_f_size => k_is)
    (case k_size => k_is)
    (case a_shuffled => k_is)
    (case l_shuffled => k_is)
    (case c_f_shuffled => k_is)
    (case k_shuffled => k_is)
    (case a_same => k_is)
    (case l_same => k_is)
    (case c_f_same => k_is)
    (case k_same => k_is)
    (case a_samerows => k_is)
    (case l_samerows => k_is)
    (case c_f_samerows => k_is)
    (case k_samerows => k_is)
    (case a_signsoftexts => k_is)
    (case l_signsoftexts => k_is)
    (case c_f_signsoftexts => k_is)
    (case k_signsoftexts => k_is)
    (case a_text => k_is)
    (case l_text => k_is)
    (case c_f_text => k_is)
    (case k_text => k_is)
    (case a_name => k_is)
    (case l_name => k_is)
    (case c_f_name => k_is)
    (case k_name => k_is)
    (case a_badname => k_is)
    (case l_badname => k_is)
    (case c_f_badname => k_is)
    (case k_badname => k_is)
    (case a_kinds => k_is)
    (case l_kinds => k_is)
    (case c_f_kinds => k_is)
    (case k_kinds => k_is)
    (case a_due => k_is)
    (case l_due => k_is)
    (case c_f_due => k_is)
    (case k_due => k_is)
    (case a_named => k_is)
    (case l_named => k_is)
    (case c_f_named => k_is)
    (case k_named => k_is)
    (case a_anytext => k_is)
    (case l_anytext => k_is)
    (case c_f_anytext => k_is)
    (case k_anytext => k_is)
    (case a_near => k_is)
    (case l_near => k_is)
    (case c_f_near => k_is)
    (case k_near => k_is)
    (case a_toldother => k_is)
    (case l_toldother => k_is)
    (case c_f_toldother => k_is)
    (case k_toldother => k_is)
    (case a_toldsign => k_is)
    (case l_toldsign => k_is)
    (case c_f_toldsign => k_is)
    (case k_toldsign => k_is)
    (case a_toldcheck => k_is)
    (case l_toldcheck => k_is)
    (case c_f_toldcheck => k_is)
    (case k_toldcheck => k_is)
    (case a_textgood => k_is)
    (case l_textgood => k_is)
    (case c_f_textgood => k_is)
    (case k_textgood => k_is)
    (case a_numbergood => k_is)
    (case l_numbergood => k_is)
    (case c_f_numbergood => k_is)
    (case k_numbergood => k_is)
    (case a_constants => k_is)
    (case l_constants => k_is)
    (case c_f_constants => k_is)
    (case k_constants => k_is)
    (case a_law => k_is)
    (case l_law => k_is)
    (case c_f_law => k_is)
    (case k_law => k_is)
    (case e_TworoomsError => k_is)
    (case e_BadNumber => k_is)
    (case e_NoHand => k_is)
    (case e_BadName => k_is)
    (case e_TooMany => k_is)
    (case e_NoEntry => k_is)
    (case e_NoPlace => k_is)
    (case e_SelfTie => k_is)
    (case e_Repeated => k_is)
    (case e_BadSigns => k_is)
    (case e_BadText => k_is)
    (case e_BadTree => k_is)
    (case e_BadMap => k_is)
    (case e_NotRight => k_is)
    (case e_NoStone => k_is)
    (case e_Stands => k_is)
    (case e_Falls => k_is)
    (case e_GameOver => k_is)
    (case e_Occupied => k_is)
    (case e_SelfTaking => k_is)
    (case e_ComesBack => k_is)
    (case e_BadDeed => k_is)
    (case e_NothingDone => k_is)
    (case e_BadRow => k_is)
    (case kit_NoHand_TworoomsError => first | k_is | rfl)
    (case kit_NoHand_BadNumber => first | k_is | rfl)
    (case kit_NoHand_NoHand => first | k_is | rfl)
    (case kit_NoHand_BadName => first | k_is | rfl)
    (case kit_NoHand_TooMany => first | k_is | rfl)
    (case kit_NoHand_NoEntry => first | k_is | rfl)
    (case kit_NoHand_NoPlace => first | k_is | rfl)
    (case kit_NoHand_SelfTie => first | k_is | rfl)
    (case kit_NoHand_Repeated => first | k_is | rfl)
    (case kit_NoHand_BadSigns => first | k_is | rfl)
    (case kit_NoHand_BadText => first | k_is | rfl)
    (case kit_NoHand_BadTree => first | k_is | rfl)
    (case kit_NoHand_BadMap => first | k_is | rfl)
    (case kit_NoHand_NotRight => first | k_is | rfl)
    (case kit_NoHand_NoStone => first | k_is | rfl)
    (case kit_NoHand_Stands => first | k_is | rfl)
    (case kit_NoHand_Falls => first | k_is | rfl)
    (case kit_NoHand_GameOver => first | k_is | rfl)
    (case kit_NoHand_Occupied => first | k_is | rfl)
    (case kit_NoHand_SelfTaking => first | k_is | rfl)
    (case kit_NoHand_ComesBack => first | k_is | rfl)
    (case kit_NoHand_BadDeed => first | k_is | rfl)
    (case kit_NoHand_NothingDone => first | k_is | rfl)
    (case kit_NoHand_BadRow => first | k_is | rfl)
    (case kit_NoHand_VE => first | k_is | rfl)
    (case xL_NoHand => k_is)
    (case rv_NoHand => first | rfl | decide +kernel)
    (case sa_NoHand => k_is)
    (case ex_NoHand => k_is)
    (case ty_NoHand => k_is)
    (case kC_NoHand => k_is)
    (case ini_NoHand => k_is)
    (case tf_NoHand => k_is)
    (case ga_NoHand => k_is)
    (case gg_NoHand => k_is)
    (case hd_NoHand => k_is)
    (case ha_NoHand => k_is)
    (case hn_NoHand => k_is)
    (case ht_NoHand => k_is)
    (case hm_NoHand => k_is)
    (case me_NoHand => first | k_is | rfl)
    (case lI_NoHand => k_is)
    (case cI_NoHand => k_is)
    (case kI_NoHand => k_is)
    (case no_NoHand_hand => k_is)
    (case kit_BadNumber_TworoomsError => first | k_is | rfl)
    (case kit_BadNumber_BadNumber => first | k_is | rfl)
    (case kit_BadNumber_NoHand => first | k_is | rfl)
    (case kit_BadNumber_BadName => first | k_is | rfl)
    (case kit_BadNumber_TooMany => first | k_is | rfl)
    (case kit_BadNumber_NoEntry => first | k_is | rfl)
    (case kit_BadNumber_NoPlace => first | k_is | rfl)
    (case kit_BadNumber_SelfTie => first | k_is | rfl)
    (case kit_BadNumber_Repeated => first | k_is | rfl)
    (case kit_BadNumber_BadSigns => first | k_is | rfl)
    (case kit_BadNumber_BadText => first | k_is | rfl)
    (case kit_BadNumber_BadTree => first | k_is | rfl)
    (case kit_BadNumber_BadMap => first | k_is | rfl)
    (case kit_BadNumber_NotRight => first | k_is | rfl)
    (case kit_BadNumber_NoStone => first | k_is | rfl)
    (case kit_BadNumber_Stands => first | k_is | rfl)
    (case kit_BadNumber_Falls => first | k_is | rfl)
    (case kit_BadNumber_GameOver => first | k_is | rfl)
    (case kit_BadNumber_Occupied => first | k_is | rfl)
    (case kit_BadNumber_SelfTaking => first | k_is | rfl)
    (case kit_BadNumber_ComesBack => first | k_is | rfl)
    (case kit_BadNumber_BadDeed => first | k_is | rfl)
    (case kit_BadNumber_NothingDone => first | k_is | rfl)
    (case kit_BadNumber_BadRow => first | k_is | rfl)
    (case kit_BadNumber_VE => first | k_is | rfl)
    (case xL_BadNumber => k_is)
    (case rv_BadNumber => first | rfl | decide +kernel)
    (case sa_BadNumber => k_is)
    (case ex_BadNumber => k_is)
    (case ty_BadNumber => k_is)
    (case kC_BadNumber => k_is)
    (case ini_BadNumber => k_is)
    (case tf_BadNumber => k_is)
    (case ga_BadNumber => k_is)
    (case gg_BadNumber => k_is)
    (case hd_BadNumber => k_is)
    (case ha_BadNumber => k_is)
    (case hn_BadNumber => k_is)
    (case ht_BadNumber => k_is)
    (case hm_BadNumber => k_is)
    (case me_BadNumber => first | k_is | rfl)
    (case lI_BadNumber => k_is)
    (case cI_BadNumber => k_is)
    (case kI_BadNumber => k_is)
    (case no_BadNumber_what => k_is)
    (case no_BadNumber_value => k_is)
    (case g_DARK => k_is)
    (case g_LIGHT => k_is)
    (case g_PASS => k_is)
    (case g_FREE => k_is)
    (case g_MOST_PLACES => k_is)
    (case g_MOST_TIES => k_is)
    (case g_MOST_DEEDS => k_is)
    (case g_MOST_NODES => k_is)
    (case g_MOST_DEPTH => k_is)
    (case g_MOST_BUDGET => k_is)
    (case g_MOST_BOARDS => k_is)
    (case g_MOST_SETS => k_is)
    (case g_MOST_ROWS => k_is)
    (case g_LETTERS => k_is)
    (case g_DIGITS => k_is)
    (case g_LONGEST_NAME => k_is)
    (case g_HANDS => k_is)
    (case l_HANDS => k_is)
    (case g_SIGN => k_is)
    (case l_SIGN => k_is)
    (case g_HAND => k_is)
    (case l_HAND => k_is)
    (case n_HAND => first | rfl | decide +kernel)
    (case z_len => k_is)
    (case z_range => k_is)
    (case z_abs => k_is)
    (case z_ord => k_is)
    (case z_min => k_is)
    (case z_max => k_is)
    (case z_all => k_is)
    (case z_isinstance => k_is)
    (case z_int_ => k_is)
    (case z_str_ => k_is)
    (case z_bool_ => k_is)
    (case z_list_ => k_is)
    (case z_tuple_ => k_is)
    (case z_dict_ => k_is)
    (case z_VE => k_is)
