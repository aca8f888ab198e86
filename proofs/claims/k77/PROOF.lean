import PyProof.Rows.All
import Wide.All
import OpenK.AllK
import Wide.FinOn
import HandS.ForMost
import HandS.Wide
import HandS.IsInst
import HandS.ReplaceLit
import HandS.Codes
import HandS.ReplaceDef
import HandS.Base
import HandS.Comp
import HandS.HotCalls
import KE.KExcIs
import HandS.Exc
import HandS.ExcOwn
import HandS.ExcField
import HandS.ExcIs
import HandS.ExcInit
import HandS.ExcCtx
import HandS.Words
import HandS.Dict
import HandS.More
import HandS.WrittenGet
import HandS.Style
import HandS.WordsExc
import HandS.Defaults
import HandS.Star
import KE.KStar
import PySem.Challenge.RW_tworooms_k77_line_ends_with_the_value
set_option Elab.async false
set_option linter.all false
set_option maxRecDepth 100000
set_option maxHeartbeats 4000000
namespace K01
open PySem PySem.Spec PyProof.Rows L2
def topS (i : Nat) : Stmt := PySem.Challenge.pw_tworooms_k77_line_ends_with_the_value.main.body.getD i (.Pass ⟨0, 0, 0, 0⟩)
/-- built-ins that the top leaves as they are -/
structure Bi (mg : Str → Option Value) : Prop where
  len : mg "len" = none
  range : mg "range" = none
  abs : mg "abs" = none
  ord : mg "ord" = none
  min : mg "min" = none
  max : mg "max" = none
  all : mg "all" = none
  isinstance : mg "isinstance" = none
  int_ : mg "int" = none
  str_ : mg "str" = none
  bool_ : mg "bool" = none
  list_ : mg "list" = none
  tuple_ : mg "tuple" = none
  dict_ : mg "dict" = none
/-- a def of the top -/
structure Dn (K : PySem.W.Frag) (mg : Str → Option Value) (x : Str) (st : Stmt) (ps : List Str) (f : Addr) (fd : FuncData) : Prop where
  F : Fun K x x st f fd
  g : mg x = some (.ref f)
  b : Binds K fd ps []
/-! ### readings that simp can take -/
theorem callR_mono {X : Cx} {f : Value} {r r' : List V → Hp → VK → Prop} (h : CallR X f r) (k : ∀ xs H Q, r' xs H Q → r xs H Q) : CallR X f r' :=
  fun pins s σ H xs us Q I rv q => h pins s σ H xs us Q I rv (k _ _ _ q)
theorem r_seq {t u : TS} {D : Ends} {σ : L2.St} {H : Hp} (h : t { D with nx := u D } σ H) : tSeq t u D σ H := h
theorem r_cut {t u : TS} {D : Ends} {σ : L2.St} {H : Hp} (M : L2.St → Hp → Prop) (h1 : ∀ N : L2.St → Hp → Prop, (∀ σ H, M σ H → N σ H) → t { D with nx := N } σ H) (h2 : ∀ σ' H', M σ' H' → u D σ' H') : C8.tCut t u D σ H := ⟨M, h1 M (fun _ _ h => h), h2⟩
/-! ### loops and comprehensions, folded -/
def LoopR (lo : Int) (n : Nat) (g : TG) (tb : TS) (D : Ends) (σ : L2.St) (H : Hp) : Prop := ∃ W : Nat → Nat → L2.St → Hp → Prop, (∃ m, W 0 m σ H) ∧ ∀ i m σ H, W i m σ H →
  ((Itr lo n).stop i H ∧ D.nx σ H) ∨ ((Itr lo n).go i H ∧ ∃ N : L2.St → Hp → Prop, (∀ σ' H', N σ' H' → ∃ m', m' < m ∧ W (i + 1) m' σ' H') ∧ ∀ x H', (Itr lo n).yld i H x H' → g x σ H' fun σ2 H2 => tb { D with nx := N, ct := N, bk := D.nx } σ2 H2)
def LoopL (K : PySem.W.Frag) (a : Addr) (g : TG) (tb : TS) (D : Ends) (σ : L2.St) (H : Hp) : Prop := ∃ W : Nat → Nat → L2.St → Hp → Prop, (∃ m, W 0 m σ H) ∧ ∀ i m σ H, W i m σ H →
  ((Itl K a).stop i H ∧ D.nx σ H) ∨ ((Itl K a).go i H ∧ ∃ N : L2.St → Hp → Prop, (∀ σ' H', N σ' H' → ∃ m', m' < m ∧ W (i + 1) m' σ' H') ∧ ∀ x H', (Itl K a).yld i H x H' → g x σ H' fun σ2 H2 => tb { D with nx := N, ct := N, bk := D.nx } σ2 H2)
def LoopS (z : Str) (g : TG) (tb : TS) (D : Ends) (σ : L2.St) (H : Hp) : Prop := ∃ W : Nat → Nat → L2.St → Hp → Prop, (∃ m, W 0 m σ H) ∧ ∀ i m σ H, W i m σ H →
  ((Its z).stop i H ∧ D.nx σ H) ∨ ((Its z).go i H ∧ ∃ N : L2.St → Hp → Prop, (∀ σ' H', N σ' H' → ∃ m', m' < m ∧ W (i + 1) m' σ' H') ∧ ∀ x H', (Its z).yld i H x H' → g x σ H' fun σ2 H2 => tb { D with nx := N, ct := N, bk := D.nx } σ2 H2)
theorem forR_eq {ta : TA} {g : TG} {tb : TS} {D : Ends} {σ : L2.St} {H : Hp} : tFor (iRng1 ta) g tb D σ H = ta σ H (fun vs H1 => ∃ j : Int, vs = [V.int j] ∧ -(2 ^ 62) ≤ j ∧ j < 2 ^ 62 ∧ LoopR 0 j.toNat g tb D σ H1) := rfl
theorem forR2_eq {ta : TA} {g : TG} {tb : TS} {D : Ends} {σ : L2.St} {H : Hp} : tFor (iRng2 ta) g tb D σ H = ta σ H (fun vs H1 => ∃ i j : Int, vs = [V.int i, V.int j] ∧ (-(2 ^ 62) ≤ i ∧ i < 2 ^ 62 ∧ -(2 ^ 62) ≤ j ∧ j < 2 ^ 62) ∧ LoopR i (j - i).toNat g tb D σ H1) := rfl
theorem forS_eq {te : TE} {g : TG} {tb : TS} {D : Ends} {σ : L2.St} {H : Hp} : tFor (iStr te) g tb D σ H = te σ H (fun v H1 => ∃ z, v = V.str z ∧ LoopS z g tb D σ H1) := rfl
theorem forL_eq {K : PySem.W.Frag} {te : TE} {g : TG} {tb : TS} {D : Ends} {σ : L2.St} {H : Hp} : tFor (iList K te) g tb D σ H = te σ H (fun v H1 => ∃ a, v = V.ref a ∧ ∃ xs, SqL K H1 a xs ∧ LoopL K a g tb D σ H1) := by
  show te σ H _ = te σ H _
  congr 1
  funext v H1
  refine propext ⟨fun ⟨a, e, ⟨xs, h⟩, q⟩ => ⟨a, e, xs, h, q⟩, fun ⟨a, e, xs, h, q⟩ => ⟨a, e, ⟨xs, h⟩, q⟩⟩
theorem r_range {lo : Int} {n : Nat} {g : TG} {tb : TS} {D : Ends} {σ : L2.St} {H : Hp} (Pv : Nat → L2.St → Hp → Prop) (h0 : Pv 0 σ H)
    (hs : ∀ i σ H, i < n → Pv i σ H → ∀ N : L2.St → Hp → Prop, (∀ σ H, Pv (i + 1) σ H → N σ H) → g (.int (lo + i)) σ H fun σ2 H2 => tb { D with nx := N, ct := N, bk := D.nx } σ2 H2) (hd : ∀ σ H, Pv n σ H → D.nx σ H) : LoopR lo n g tb D σ H :=
  for_range Pv h0 (fun i σ H hi hp => hs i σ H hi hp _ (fun _ _ h => h)) hd
theorem r_list {K : PySem.W.Frag} {a : Addr} (xs : List V) {g : TG} {tb : TS} {D : Ends} {σ : L2.St} {H : Hp} (Pv : Nat → L2.St → Hp → Prop) (h0 : Pv 0 σ H) (hl : ∀ i σ H, i ≤ xs.length → Pv i σ H → SqL K H a xs)
    (hs : ∀ i x σ H, xs[i]? = some x → Pv i σ H → ∀ N : L2.St → Hp → Prop, (∀ σ H, Pv (i + 1) σ H → N σ H) → g x σ H fun σ2 H2 => tb { D with nx := N, ct := N, bk := D.nx } σ2 H2) (hd : ∀ σ H, Pv xs.length σ H → D.nx σ H) : LoopL K a g tb D σ H :=
  for_list Pv h0 hl (fun i x σ H hi hp => hs i x σ H hi hp _ (fun _ _ h => h)) hd
theorem r_str (z : Str) {g : TG} {tb : TS} {D : Ends} {σ : L2.St} {H : Hp} (Pv : Nat → L2.St → Hp → Prop) (h0 : Pv 0 σ H)
    (hs : ∀ i c σ H, z.cps.toList[i]? = some c → Pv i σ H → ∀ N : L2.St → Hp → Prop, (∀ σ H, Pv (i + 1) σ H → N σ H) → g (.str ⟨#[c]⟩) σ H fun σ2 H2 => tb { D with nx := N, ct := N, bk := D.nx } σ2 H2) (hd : ∀ σ H, Pv z.cps.toList.length σ H → D.nx σ H) : LoopS z g tb D σ H := by
  refine ⟨fun i m σ H => m = z.cps.toList.length - i ∧ i ≤ z.cps.toList.length ∧ Pv i σ H, ⟨_, rfl, Nat.zero_le _, h0⟩, ?_⟩
  rintro i m σ H ⟨rfl, hi, p⟩
  have el : z.cps.toList.length = z.cps.size := Array.length_toList
  by_cases hlt : i < z.cps.toList.length
  · refine .inr ⟨by rw [el] at hlt; exact hlt, Pv (i + 1), fun σ' H' p' => ⟨z.cps.toList.length - (i + 1), by omega, rfl, hlt, p'⟩, fun x H' y => ?_⟩
    obtain ⟨e, c, hc, ex⟩ := y
    subst e ex
    refine hs i c σ _ ?_ p _ fun _ _ h => h
    rw [Array.getElem?_toList]
    exact hc
  · have e : i = z.cps.toList.length := by omega
    subst e
    exact .inl ⟨by show z.cps.size ≤ z.cps.toList.length; omega, hd σ H p⟩
def LcL (K : PySem.W.Frag) (a : Addr) (g : TG) (te : TE) (vs : List Nat) (σ : L2.St) (H1 : Hp) (D : Addr) (Q : Hp → Prop) : Prop := ∃ W : Nat → Nat → Hp → Prop, (∃ m, W 0 m (upd H1 D (.lst []))) ∧ ∀ i m H, W i m H →
  ((Itl K a).stop i H ∧ Q H) ∨ ((Itl K a).go i H ∧ ∃ Nx : Hp → Prop, (∀ H', Nx H' → ∃ m', m' < m ∧ W (i + 1) m' H') ∧ ∀ x H', (Itl K a).yld i H x H' → g x (wipe σ vs) H' fun σ2 H2 => wipe σ2 vs = wipe σ vs ∧ tYes σ2 H2 fun b H3 =>
    if b = true then te σ2 H3 fun y H4 => ∃ acc, H4 D = some (.lst acc) ∧ acc.length < sizeLine ∧ Nx (upd H4 D (.lst (acc ++ [y]))) else Nx H3)
def LcR (lo : Int) (n : Nat) (g : TG) (te : TE) (vs : List Nat) (σ : L2.St) (H1 : Hp) (D : Addr) (Q : Hp → Prop) : Prop := ∃ W : Nat → Nat → Hp → Prop, (∃ m, W 0 m (upd H1 D (.lst []))) ∧ ∀ i m H, W i m H →
  ((Itr lo n).stop i H ∧ Q H) ∨ ((Itr lo n).go i H ∧ ∃ Nx : Hp → Prop, (∀ H', Nx H' → ∃ m', m' < m ∧ W (i + 1) m' H') ∧ ∀ x H', (Itr lo n).yld i H x H' → g x (wipe σ vs) H' fun σ2 H2 => wipe σ2 vs = wipe σ vs ∧ tYes σ2 H2 fun b H3 =>
    if b = true then te σ2 H3 fun y H4 => ∃ acc, H4 D = some (.lst acc) ∧ acc.length < sizeLine ∧ Nx (upd H4 D (.lst (acc ++ [y]))) else Nx H3)
def LcS (z : Str) (g : TG) (te : TE) (vs : List Nat) (σ : L2.St) (H1 : Hp) (D : Addr) (Q : Hp → Prop) : Prop := ∃ W : Nat → Nat → Hp → Prop, (∃ m, W 0 m (upd H1 D (.lst []))) ∧ ∀ i m H, W i m H →
  ((Its z).stop i H ∧ Q H) ∨ ((Its z).go i H ∧ ∃ Nx : Hp → Prop, (∀ H', Nx H' → ∃ m', m' < m ∧ W (i + 1) m' H') ∧ ∀ x H', (Its z).yld i H x H' → g x (wipe σ vs) H' fun σ2 H2 => wipe σ2 vs = wipe σ vs ∧ tYes σ2 H2 fun b H3 =>
    if b = true then te σ2 H3 fun y H4 => ∃ acc, H4 D = some (.lst acc) ∧ acc.length < sizeLine ∧ Nx (upd H4 D (.lst (acc ++ [y]))) else Nx H3)
theorem lcL_eq {K : PySem.W.Frag} {tl te : TE} {g : TG} {vs : List Nat} {σ : L2.St} {H : Hp} {Q : VK} : tLc (iList K tl) g tYes te vs σ H Q = tl σ H (fun v H1 => ∃ a, v = V.ref a ∧ ∃ xs, SqL K H1 a xs ∧ ∀ D, H1 D = none → LcL K a g te vs σ H1 D (Q (.ref D))) := by
  show tl σ H _ = tl σ H _
  congr 1
  funext v H1
  exact propext ⟨fun ⟨a, e, ⟨xs, h⟩, q⟩ => ⟨a, e, xs, h, q⟩, fun ⟨a, e, xs, h, q⟩ => ⟨a, e, ⟨xs, h⟩, q⟩⟩
theorem lcR_eq {ta : TA} {te : TE} {g : TG} {vs : List Nat} {σ : L2.St} {H : Hp} {Q : VK} : tLc (iRng1 ta) g tYes te vs σ H Q = ta σ H (fun vs' H1 => ∃ j : Int, vs' = [V.int j] ∧ -(2 ^ 62) ≤ j ∧ j < 2 ^ 62 ∧ ∀ D, H1 D = none → LcR 0 j.toNat g te vs σ H1 D (Q (.ref D))) := rfl
theorem lcS_eq {tl te : TE} {g : TG} {vs : List Nat} {σ : L2.St} {H : Hp} {Q : VK} : tLc (iStr tl) g tYes te vs σ H Q = tl σ H (fun v H1 => ∃ z, v = V.str z ∧ ∀ D, H1 D = none → LcS z g te vs σ H1 D (Q (.ref D))) := rfl
/-- a comprehension without a test; N: what is behind a turn -/
theorem r_lcL {K : PySem.W.Frag} {a : Addr} (xs : List V) {j : Nat} {te : TE} {vs : List Nat} {σ : L2.St} {H1 : Hp} {D : Addr} {Qd : Hp → Prop} (Pv : Nat → Hp → Prop) (hw : ∀ x, wipe ((wipe σ vs).set j (some x)) vs = wipe σ vs)
    (h0 : Pv 0 (upd H1 D (.lst []))) (hl : ∀ i H, i ≤ xs.length → Pv i H → SqL K H a xs)
    (hs : ∀ i x H, xs[i]? = some x → Pv i H → ∀ N : VK, (∀ y H4 acc, H4 D = some (.lst acc) → acc.length < sizeLine → Pv (i + 1) (upd H4 D (.lst (acc ++ [y]))) → N y H4) → te ((wipe σ vs).set j (some x)) H N) (hd : ∀ H, Pv xs.length H → Qd H) : LcL K a (gName j) te vs σ H1 D Qd :=
  lc_list (g := gName j) (tt := tYes) Pv h0 hl (fun i x H hx hp => ⟨hw x, by
    simp only [tYes, if_pos]
    exact hs i x H hx hp _ fun y H4 acc h1 h2 h3 => ⟨acc, h1, h2, h3⟩⟩) hd
theorem r_lcR {lo : Int} {n : Nat} {j : Nat} {te : TE} {vs : List Nat} {σ : L2.St} {H1 : Hp} {D : Addr} {Qd : Hp → Prop} (Pv : Nat → Hp → Prop) (hw : ∀ x, wipe ((wipe σ vs).set j (some x)) vs = wipe σ vs)
    (h0 : Pv 0 (upd H1 D (.lst [])))
    (hs : ∀ i H, i < n → Pv i H → ∀ N : VK, (∀ y H4 acc, H4 D = some (.lst acc) → acc.length < sizeLine → Pv (i + 1) (upd H4 D (.lst (acc ++ [y]))) → N y H4) → te ((wipe σ vs).set j (some (.int (lo + i)))) H N) (hd : ∀ H, Pv n H → Qd H) : LcR lo n (gName j) te vs σ H1 D Qd :=
  lc_range (g := gName j) (tt := tYes) Pv h0 (fun i H hi hp => ⟨hw _, by
    simp only [tYes, if_pos]
    exact hs i H hi hp _ fun y H4 acc h1 h2 h3 => ⟨acc, h1, h2, h3⟩⟩) hd
theorem r_lcS (z : Str) {j : Nat} {te : TE} {vs : List Nat} {σ : L2.St} {H1 : Hp} {D : Addr} {Qd : Hp → Prop} (Pv : Nat → Hp → Prop) (hw : ∀ x, wipe ((wipe σ vs).set j (some x)) vs = wipe σ vs)
    (h0 : Pv 0 (upd H1 D (.lst [])))
    (hs : ∀ i c H, z.cps.toList[i]? = some c → Pv i H → ∀ N : VK, (∀ y H4 acc, H4 D = some (.lst acc) → acc.length < sizeLine → Pv (i + 1) (upd H4 D (.lst (acc ++ [y]))) → N y H4) → te ((wipe σ vs).set j (some (.str ⟨#[c]⟩))) H N) (hd : ∀ H, Pv z.cps.toList.length H → Qd H) : LcS z (gName j) te vs σ H1 D Qd := by
  refine ⟨fun i m H => m = z.cps.toList.length - i ∧ i ≤ z.cps.toList.length ∧ Pv i H, ⟨_, rfl, Nat.zero_le _, h0⟩, ?_⟩
  rintro i m H ⟨rfl, hi, p⟩
  have el : z.cps.toList.length = z.cps.size := Array.length_toList
  by_cases hlt : i < z.cps.toList.length
  · refine .inr ⟨by rw [el] at hlt; exact hlt, Pv (i + 1), fun H' p' => ⟨z.cps.toList.length - (i + 1), by omega, rfl, hlt, p'⟩, fun x H' y => ?_⟩
    obtain ⟨e, c, hc, ex⟩ := y
    subst e ex
    refine ⟨hw _, ?_⟩
    simp only [tYes, if_pos]
    exact hs i c _ (by rw [Array.getElem?_toList]; exact hc) p _ fun y H4 acc h1 h2 h3 => ⟨acc, h1, h2, h3⟩
  · have e : i = z.cps.toList.length := by omega
    subst e
    exact .inl ⟨by show z.cps.size ≤ z.cps.toList.length; omega, hd H p⟩
/-! ### built-ins, by named readings -/
def rLenX (K : PySem.W.Frag) (xs : List V) (H : Hp) (Q : VK) : Prop := ∃ p, xs = [V.ref p] ∧ ∃ ys, (SqL K H p ys ∨ SqT K H p ys) ∧ Q (.int ys.length) H
theorem call_lenX {X : Cx} : CallR X (.builtin "len") (rLenX X.K) := callR_mono call_len_seq fun xs H Q ⟨p, e, ys, h, q⟩ => ⟨p, ys, e, h, q⟩
def rLenS (xs : List V) (H : Hp) (Q : VK) : Prop := ∃ z, xs = [V.str z] ∧ z.length ≤ sizeLine ∧ Q (.int z.length) H
theorem call_lenS {X : Cx} : CallR X (.builtin "len") rLenS := callR_mono call_len_str fun xs H Q h => h
def rIntI (xs : List V) (H : Hp) (Q : VK) : Prop := ∃ i, xs = [V.int i] ∧ Q (.int i) H
theorem call_intI {X : Cx} : CallR X (.type "int") rIntI := callR_mono call_int1 fun _ _ _ h => .inl h
def rIntB (xs : List V) (H : Hp) (Q : VK) : Prop := ∃ k, xs = [V.bl k] ∧ Q (.int (if k = true then 1 else 0)) H
theorem call_intB {X : Cx} : CallR X (.type "int") rIntB := callR_mono call_int1 fun _ _ _ h => .inr h
def rIntS (xs : List V) (H : Hp) (Q : VK) : Prop := ∃ z, xs = [V.str z] ∧ ∃ n, PySem.intText? z = some n ∧ z.length ≤ 640 ∧ Q (.int n) H
theorem call_intS {X : Cx} : CallR X (.type "int") rIntS := callR_mono call_int_str fun _ _ _ ⟨z, e, n, h1, h2, q⟩ => ⟨z, n, e, h1, h2, q⟩
def rStrI (xs : List V) (H : Hp) (Q : VK) : Prop := ∃ i, xs = [V.int i] ∧ i.natAbs.log2 < 1920 ∧ Q (.str (toString i)) H
theorem call_strI {X : Cx} : CallR X (.type "str") rStrI := callR_mono call_str_int fun _ _ _ h => h
def rAbs (xs : List V) (H : Hp) (Q : VK) : Prop := ∃ i, xs = [V.int i] ∧ Q (.int (if i < 0 then -i else i)) H
theorem call_absI {X : Cx} : CallR X (.builtin "abs") rAbs := callR_mono call_abs fun _ _ _ h => h
def rOrd (xs : List V) (H : Hp) (Q : VK) : Prop := ∃ c : Nat, xs = [V.str ⟨#[c]⟩] ∧ Q (.int c) H
theorem call_ordI {X : Cx} : CallR X (.builtin "ord") rOrd := callR_mono call_ord fun _ _ _ ⟨c, e, q⟩ => ⟨_, e, rfl, q⟩
def rMin (xs : List V) (H : Hp) (Q : VK) : Prop := ∃ i j, xs = [V.int i, V.int j] ∧ Q (.int (if j < i then j else i)) H
theorem call_minI {X : Cx} (hc : X.calm = true) : CallR X (.builtin "min") rMin := callR_mono (call_min2 hc) fun _ _ _ h => h
def rMax (xs : List V) (H : Hp) (Q : VK) : Prop := ∃ i j, xs = [V.int i, V.int j] ∧ Q (.int (if j > i then j else i)) H
theorem call_maxI {X : Cx} (hc : X.calm = true) : CallR X (.builtin "max") rMax := callR_mono (call_max2 hc) fun _ _ _ h => h
def rSplit (x : V) (xs : List V) (H : Hp) (Q : VK) : Prop := ∃ a, x = .str a ∧ ∃ b, xs = [V.str b] ∧ (b.length == 0) = false ∧ a.length + 2 ≤ sizeLine ∧ ∀ p, H p = none → Q (.ref p) (L2.upd H p (.lst ((Txt.split a b).map V.str)))
def rJoin (K : PySem.W.Frag) (x : V) (xs : List V) (H : Hp) (Q : VK) : Prop := ∃ a, x = .str a ∧ ∃ p, xs = [V.ref p] ∧ ∃ ys : List Str, SqL K H p (ys.map V.str) ∧ (ys.map (·.length)).sum + ys.length * a.length ≤ 16777216 ∧ Q (.str (Txt.join a ys)) H
theorem mtR_mono {X : Cx} {id : String} {r r' : V → List V → Hp → VK → Prop} (h : MtR X id r) (k : ∀ x xs H Q, r' x xs H Q → r x xs H Q) : MtR X id r' :=
  fun pins s σ H x xs v us Q I rx rv q => h pins s σ H x xs v us Q I rx rv (k _ _ _ _ q)
def rSplitN (x : V) (xs : List V) (H : Hp) (Q : VK) : Prop := ∃ a, x = .str a ∧ ∃ b, xs = [V.str b] ∧ (b.length == 0) = false ∧ a.length + 2 ≤ sizeLine ∧ ∀ p, H p = none → Q (.ref p) (L2.upd H p (.lst ((Txt.split a b).map V.str)))
theorem mt_splitN {X : Cx} : MtR X "str.split" rSplitN := mtR_mono mt_split fun _ _ _ _ ⟨a, e, b, e2, h, h2, q⟩ => ⟨a, b, e, e2, h, h2, q⟩
def rJoinN (K : PySem.W.Frag) (x : V) (xs : List V) (H : Hp) (Q : VK) : Prop := ∃ a, x = .str a ∧ ∃ p, xs = [V.ref p] ∧ ∃ ys : List Str, SqL K H p (ys.map V.str) ∧ (ys.map (·.length)).sum + ys.length * a.length ≤ 16777216 ∧ Q (.str (Txt.join a ys)) H
theorem mt_joinN {X : Cx} : MtR X "str.join" (rJoinN X.K) := mtR_mono mt_join fun _ _ _ _ ⟨a, e, p, e2, ys, h, h2, q⟩ => ⟨a, p, ys, e, e2, .inl h, h2, q⟩
/-- an item of a list or a tuple -/
def rIxX (K : PySem.W.Frag) : R2 := fun x y H Q => ∃ p i, x = .ref p ∧ y = .int i ∧ ∃ xs, (SqL K H p xs ∨ SqT K H p xs) ∧ ∃ v, atI xs i = some v ∧ Q v H
theorem ix_sx {X : Cx} : IxR X (rIxX X.K) := by
  intro value slice pins s σ H x y v u Q I rx ry h hs
  obtain ⟨p, i, e1, e2, xs, hq | hq, z, he, q⟩ := h
  · exact ix_list value slice pins s σ H x y v u Q I rx ry ⟨p, xs, i, z, e1, e2, hq, he, q⟩ hs
  · exact ix_tup value slice pins s σ H x y v u Q I rx ry ⟨p, xs, i, z, e1, e2, hq, he, q⟩ hs
/-! ### the same rules with the written part named -/
theorem ix_listK {X : Cx} {K : PySem.W.Frag} (h : X.K = K := by rfl) : IxR X (rIxL K) := h ▸ ix_list
theorem ix_tupK {X : Cx} {K : PySem.W.Frag} (h : X.K = K := by rfl) : IxR X (rIxT K) := h ▸ ix_tup
theorem ix_sxK {X : Cx} {K : PySem.W.Frag} (h : X.K = K := by rfl) : IxR X (rIxX K) := h ▸ ix_sx
theorem sl_listK {X : Cx} {K : PySem.W.Frag} (h : X.K = K := by rfl) : SlR X (rSlL K) := h ▸ sl_list
theorem call_lenXK {X : Cx} {K : PySem.W.Frag} (h : X.K = K := by rfl) : CallR X (.builtin "len") (rLenX K) := h ▸ call_lenX
theorem mt_joinK {X : Cx} {K : PySem.W.Frag} (h : X.K = K := by rfl) : MtR X "str.join" (rJoinN K) := h ▸ mt_joinN
theorem pi_listK {X : Cx} {K : PySem.W.Frag} {tg l : Expr} {tl : TE} (hl : PE X l tl) (h : X.K = K := by rfl) : PI X tg l (iList K tl) := h ▸ pi_list hl
theorem atI_get {α : Type} {xs : List α} {i : Int} (h0 : 0 ≤ i) (h : i.toNat < xs.length) : ∃ z, atI xs i = some z ∧ xs[i.toNat]? = some z := by
  have e : i = (i.toNat : Int) := by omega
  have g := List.getElem?_eq_getElem h
  exact ⟨_, (congrArg (atI xs) e).trans (atI_nat g), g⟩
theorem atI_map {ns : List Int} {i : Int} (h0 : 0 ≤ i) (h : i.toNat < ns.length) : ∃ z, atI (ns.map V.int) i = some (.int z) := by
  obtain ⟨z, e1, e2⟩ := atI_get (xs := ns.map V.int) h0 (by rw [List.length_map]; exact h)
  rw [List.getElem?_map] at e2
  cases e : ns[i.toNat]? with
  | none =>
    rw [e] at e2
    cases e2
  | some y =>
    rw [e] at e2
    cases e2
    exact ⟨y, e1⟩
theorem map_get {α β : Type} {f : α → β} {xs : List α} {i : Nat} {y : β} (h : (xs.map f)[i]? = some y) : ∃ x, xs[i]? = some x ∧ y = f x := by
  rw [List.getElem?_map] at h
  cases e : xs[i]? with
  | none => rw [e] at h; cases h
  | some x => rw [e] at h; exact ⟨x, rfl, (Option.some.inj h).symm⟩
theorem take_map {α β : Type} {f : α → β} {xs : List α} {i : Nat} {x : α} (h : xs[i]? = some x) : (xs.take i).map f ++ [f x] = (xs.take (i + 1)).map f := by
  rw [List.take_add_one, h, List.map_append]
  rfl
theorem lt_of_get {α : Type} {xs : List α} {i : Nat} {x : α} (h : xs[i]? = some x) : i < xs.length := (List.getElem?_eq_some_iff.mp h).1
theorem start1 {N : List Str} {vs : List V} : L2.start N vs = vs.map some ++ List.replicate (N.length - vs.length) none := rfl
theorem sq_of {K : PySem.W.Frag} {H : Hp} {a : Addr} {xs : List V} (h : H a = some (.lst xs)) : SqL K H a xs := .inl (.inl h)
/-- all that was tracked stands, but what is at a -/
def But (a : Addr) (H H' : Hp) : Prop := ∀ b o, b ≠ a → H b = some o → H' b = some o
theorem But.refl (a : Addr) (H : Hp) : But a H H := fun _ _ _ h => h
theorem But.trans {a : Addr} {H H1 H2 : Hp} (p : But a H H1) (q : But a H1 H2) : But a H H2 := fun b o n h => q b o n (p b o n h)
theorem But.updA {a : Addr} {H : Hp} {o : HO} : But a H (L2.upd H a o) := fun b x n h => by rw [upd_ne n]; exact h
theorem But.new {a p : Addr} {H : Hp} {o : HO} (h : H p = none) : But a H (upd H p o) := fun b x _ e => by rw [upd_ne (ne_of_none e h)]; exact e
theorem But.of {a : Addr} {H H' : Hp} (h : Same H H') : But a H H' := fun b o _ e => h b o e
theorem Same.new {p : Addr} {H : Hp} {o : HO} (h : H p = none) : Same H (upd H p o) := fun b x e => by rw [upd_ne (ne_of_none e h)]; exact e
theorem But.same {c : Addr} {H H' : Hp} (n : H c = none) (h : But c H H') : Same H H' := fun b o e => h b o (ne_of_none e n) e
theorem But.seq {K : PySem.W.Frag} {c a : Addr} {H H' : Hp} {xs : List V} (h : But c H H') (n : a ≠ c) (S : SqL K H a xs) : SqL K H' a xs := by
  rcases S with (S | ⟨o, S⟩) | S
  · exact .inl (.inl (h _ _ n S))
  · exact .inl (.inr ⟨o, h _ _ n S⟩)
  · exact .inr S
end K01
namespace K01
open PySem PySem.Spec PyProof.Rows L2
def rAllK (K : PySem.W.Frag) (vs : List V) (H : Hp) (Q : VK) : Prop := ∃ a, vs = [V.ref a] ∧ ∃ bs : List Bool, SqL K H a (bs.map V.bl) ∧ Q (.bl (bs.all id)) H
theorem call_allK {X : Cx} {K : PySem.W.Frag} (h : X.K = K := by rfl) (hc : X.calm = true := by rfl) : CallR X (.builtin "all") (rAllK K) := callR_mono (h ▸ cr_all hc) fun _ _ _ ⟨a, e, bs, h1, q⟩ => ⟨a, bs, e, h1, q⟩
theorem opR_mono {X : Cx} {f : Value → Value → Sem Value} {r r' : R2} (h : OpR X f r) (k : ∀ x y H Q, r' x y H Q → r x y H Q) : OpR X f r' := fun pins s σ H x y v u Q I rx ry q => h pins s σ H x y v u Q I rx ry (k _ _ _ _ q)
def rInSg (x y : V) (H : Hp) (Q : VK) : Prop := ∃ c : Nat, x = .str ⟨#[c]⟩ ∧ ∃ z : Str, y = .str z ∧ Q (.bl (decide (c ∈ z.cps.toList))) H
theorem op_inSg {X : Cx} : OpR X (compareOp .In) rInSg := opR_mono op_in_sign fun _ _ _ _ ⟨c, e, z, e2, q⟩ => ⟨c, z, e, e2, q⟩
def rNinSg (x y : V) (H : Hp) (Q : VK) : Prop := ∃ c : Nat, x = .str ⟨#[c]⟩ ∧ ∃ z : Str, y = .str z ∧ Q (.bl (!decide (c ∈ z.cps.toList))) H
theorem op_ninSg {X : Cx} : OpR X (compareOp .NotIn) rNinSg := opR_mono op_notIn_sign fun _ _ _ _ ⟨c, e, z, e2, q⟩ => ⟨c, z, e, e2, q⟩
theorem sgn_inj {a b : Nat} : ((⟨#[a]⟩ : Str) = ⟨#[b]⟩) = (a = b) := propext ⟨fun h => by
  have e := congrArg (fun z : Str => z.cps.toList) h
  simpa using e, fun h => by rw [h]⟩
def rAddS (x y : V) (H : Hp) (Q : VK) : Prop := ∃ i, x = .str i ∧ ∃ j, y = .str j ∧ i.length + j.length ≤ sizeLine ∧ Q (.str (i ++ j)) H
theorem op_addS {X : Cx} : OpR X (binaryOp .Add) rAddS := opR_mono op_add_str fun _ _ _ _ ⟨i, e, j, e2, h, q⟩ => ⟨i, j, e, e2, h, q⟩
def rInSt (x y : V) (H : Hp) (Q : VK) : Prop := ∃ i, x = .str i ∧ ∃ j, y = .str j ∧ Q (.bl (!(Builtin.Str.occurrences j i 0 j.length 1).isEmpty)) H
theorem op_inSt {X : Cx} : OpR X (compareOp .In) rInSt := opR_mono op_in_str fun _ _ _ _ ⟨i, e, j, e2, q⟩ => ⟨i, j, e, e2, q⟩
end K01
namespace K01
open PySem PySem.Spec PyProof.Rows L2
/-! ### where a token is out -/
theorem okT {P : Program} {w : World} {K : PySem.W.Frag} {mg : Str → Option Value} {base : Heap} {x qual : Str} {st : Stmt} {f : Addr} {fd : FuncData} {N ps : List Str} {k : Nat} {sp : Sp} (F : Fun K x qual st f fd) (S : FnScope N ps (defScope st))
    (nc : ∀ y ∈ (defScope st).names, y.2 ≠ .cell) (one : 1 ≤ ps.length) (ln : ∀ vs H Q E, sp vs H Q E → vs.length = ps.length)
    (body : ∀ (cv : Value) (A : Around) (ou : List Env) (s : Shared) (H : Hp) (vs : List V) (Q : VK) (E : XK), Room k (A.deeper (envOfC qual (defScope st) s.heap.objs.size f cv)) → sp vs H Q E →
      ∃ t, PSsT (cxOf CX0 P w K mg base N qual (defScope st) f cv A ou s H E) (defBody st) t ∧ t { nx := fun _ H' => Q .non H', rt := Q } (L2.start N vs) H) : FnOk P w K mg base CX0 (k + 1) f fd ps sp := by
  obtain ⟨oc, od, kV, doc, pm, an, cv, ct, osl, e, lk, hcd⟩ := F.ex
  subst e
  exact fn_ofT lk hcd S nc one ln fun A ou s H vs Q E hr hs => body cv A ou s H vs Q E hr hs
section
variable {X : Cx}
structure PA1 (X : Cx) (es : List Expr) (t : TA) : Prop where
  go : ∀ (ps : Pos) (pn : List (Addr × Obj)) (s : Shared) (σ : L2.St) (H : Hp) (Q : List V → Hp → Prop), Inv X pn σ H s → t σ H Q →
    wpAny (model X.prog X.w) X.A (spliced (backTo ps (starEach es X.env))) (fun us s' => 1 ≤ s'.toks ∧ AP X pn σ Q us s') X.xe s
theorem pa1_int {i : Int} {j : Nat} {ps : Pos} (hs : starEach [.Constant (.int i) j ps] X.env = [(false, eval (.Constant (.int i) j ps) X.env)] := by rfl) : PA1 X [.Constant (.int i) j ps] (tCons (tC (.int i)) tNil) := by
  refine ⟨fun p0 pn s σ H Q J h => ?_⟩
  rw [hs]
  refine Calls.spliced_cons (wpAny_Constant_int (pos := ps) (k := j) ?_)
  refine Calls.spliced_nil ?_
  exact ⟨by show 1 ≤ s.toks + 1; omega, [.int i], H, J.tok _, .cons ⟨_, rfl⟩ .nil, h⟩
theorem pa1_cons {e : Expr} {es : List Expr} {te : TE} {t : TA} (ha : PE X e te) (hr : PA1 X es t) (hs : starEach (e :: es) X.env = (false, eval e X.env) :: starEach es X.env := by rfl) : PA1 X (e :: es) (tCons te t) := by
  refine ⟨fun p0 pn s σ H Q J h => ?_⟩
  rw [hs]
  refine Calls.spliced_cons (thn (ha.run pn s σ H _ J h) fun u s1 g => ?_)
  obtain ⟨x, H1, J1, rx, q⟩ := g
  refine thn (hr.go p0 pn s1 σ H1 _ J1 q) fun us s2 g => ?_
  obtain ⟨ht, xs, H2, J2, r2, q2⟩ := g
  exact ⟨ht, x :: xs, H2, J2, .cons rx r2, q2⟩
structure PS1 (X : Cx) (st : Stmt) (t : TS) : Prop where
  go : ∀ (pn : List (Addr × Obj)) (s : Shared) (σ : L2.St) (H : Hp) (D : Ends), Inv X pn σ H s → t D σ H → wpAny (model X.prog X.w) X.A (exec st X.env) (fun fl s' => 1 ≤ s'.toks ∧ SP X pn D fl s') X.xe s
theorem ps1_call {CX : CXT} {k i : Nat} {f : Addr} {fd : FuncData} {ps : List Str} {sp : Sp} {dvs : List V} {ds : List Value} {E : XK} {x y : Str} {p p2 pos pos2 : Pos} {e : Expr} {es : List Expr} {t : TA}
    (hN : X.N.Nodup) (hi : X.N[i]? = some y) (hy : Loc X.env.scope y) (F : FnOk X.prog X.w X.K X.mg X.base CX k f fd ps sp) (hr : Room k X.A) (hg : Gl X x) (hm : X.mg x = some (.ref f)) (hk : PySem.W.keepIn X.K (.ref f) = true) (hb : Binds X.K fd ps ds) (hd : Vals dvs ds) (hx : Passes CX X E)
    (ha : PA1 X (e :: es) t) (hdb : (x == ("__debug__" : Str)) = false := by decide) (he : starEach (e :: es) X.env = (false, eval e X.env) :: starEach es X.env := by rfl) (hpl : (backTo pos (starEach es X.env)).any (·.1) = false := by rfl)
    (hs : swapsWith (.Call (.Name x p) (e :: es) [] pos) (some (.Name y p2)) pos2.line X.env = pure false := by rfl) (hf : X.fn y = true ∨ X.env.scope.names.lookup y = some .local := by first | exact .inl rfl | exact .inr rfl | assumption) :
    PS1 X (.Assign [.Name y p2] (.Call (.Name x p) (e :: es) [] pos) pos2) (tAsg (tCall sp dvs E t) (gName i)) := by
  refine ⟨fun pn s σ H D J h => ?_⟩
  refine wpAny_Assign_Name (Q := fun fl s' => 1 ≤ s'.toks ∧ SP X pn D fl s') (wpAny_mono (Q := fun v s2 => 1 ≤ s2.toks ∧ EP X pn σ (fun v H1 => D.nx (σ.set i (some v)) H1) v s2) (wpAny_Call_Name_kw (ld_glob J hg hm ?_ hdb)) (fun v s2 g => ?_) fun _ _ z => z) hs
  · refine PySem.W.callWith_K (h₀ := X.base) J.ok.mod.kin hk (thn (ha.go pos pn s σ H _ J h) fun us s1 g => ?_) he hpl
    obtain ⟨ht, vs, H1, J1, r, q⟩ := g
    exact ⟨J1.kIn, wpAny_mono (wpAny_toks_of ht (run_fn F hr hb hd hx J1 r q)) (fun _ _ z => z) fun _ _ z => z.2⟩
  · obtain ⟨ht, v', H1, J1, rv, q⟩ := g
    exact wpAny_mono (wpAny_toks_of ht (store_ok J1 hN hi hy rv (fun s3 J3 => (⟨_, H1, J3, q⟩ : SP X pn D .next s3)) hf)) (fun _ _ z => z) fun _ _ z => z.2
/-- the first statement gives out a token -/
theorem pss_tok {st : Stmt} {rest : List Stmt} {t u : TS} (h1 : PS1 X st t) (h2 : PSsT X rest u) : PSs X (st :: rest) (tSeq t u) := by
  refine ⟨fun pn s σ H D J h => ?_⟩
  refine wpAny_execs_cons (thn (h1.go pn s σ H { D with nx := u D } J h) fun fl s1 g => ?_)
  obtain ⟨ht, g⟩ := g
  cases fl with
  | ret v => exact g
  | brk => exact g
  | cont => exact g
  | next =>
    obtain ⟨σ1, H1, J1, g⟩ := g
    exact h2 pn s1 σ1 H1 D ht J1 g
theorem pst_setE {i : Nat} {x : Str} {e : Expr} {te : TE} {p2 pos : Pos} (hN : X.N.Nodup) (hi : X.N[i]? = some x) (hx : Loc X.env.scope x) (he : PET X e te) (hs : swapsWith e (some (.Name x p2)) pos.line X.env = pure false := by rfl)
    (hf : X.fn x = true ∨ X.env.scope.names.lookup x = some .local := by first | exact .inl rfl | exact .inr rfl | assumption) : PST X (.Assign [.Name x p2] e pos) (tAsg te (gName i)) := by
  intro pn s σ H D h0 J h
  refine wpAny_Assign_Name (thn (he pn s σ H _ h0 J h) fun v s1 g => ?_) hs
  obtain ⟨y, H1, J1, r1, q1⟩ := g
  exact store_ok J1 hN hi hx r1 (fun s2 J2 => ⟨_, H1, J2, q1⟩) hf
/-- a word between an if and what follows, a token out -/
theorem psst_cut {st : Stmt} {rest : List Stmt} {t u : TS} (h1 : PST X st t) (h2 : PSsT X rest u) : PSsT X (st :: rest) (C8.tCut t u) := by
  intro pn s σ H D h0 J h
  obtain ⟨M, hm, hu⟩ := h
  refine wpAny_execs_cons (wpAny_mono (PySem.wpAny_toks (h1 pn s σ H { D with nx := M } h0 J hm)) (fun fl s1 g => ?_) fun _ _ z => z.2)
  obtain ⟨hk, g⟩ := g
  cases fl with
  | ret v => exact g
  | brk => exact g
  | cont => exact g
  | next =>
    obtain ⟨σ1, H1, J1, g⟩ := g
    exact h2 pn s1 σ1 H1 D (Nat.le_trans h0 hk) J1 (hu σ1 H1 g)
end
end K01
namespace K01
open PySem PySem.Spec PyProof.Rows L2
/-! ### texts times numbers, lists times numbers -/
def rMulS (x y : V) (H : Hp) (Q : VK) : Prop := ∃ z, x = .str z ∧ ∃ n, y = .int n ∧ ∃ L N : Nat, z.length ≤ L ∧ n ≤ (N : Int) ∧ 0 ≤ n ∧ N ≤ 16777216 ∧ L * N ≤ 16777216 ∧ Q (.str (Txt.mul z n)) H
theorem op_mulS {X : Cx} : OpR X (binaryOp .Mult) rMulS := by
  intro pn s σ H x y v u Q J rx ry h
  obtain ⟨z, rfl, n, rfl, L, N, h1, h2, h3, h4, h5, q⟩ := h
  obtain ⟨t, rfl⟩ := rx
  obtain ⟨t', rfl⟩ := ry
  exact SB.mul (mulOk_of L N h1 h2 (by omega) h4 h5) fun tt k => ⟨.str (Txt.mul z n), H, J.tok k, ⟨tt, rfl⟩, q⟩
def rRepL (x y : V) (H : Hp) (Q : VK) : Prop := ∃ l, x = .ref l ∧ ∃ k, y = .int k ∧ ∃ xs, H l = some (.lst xs) ∧ -(2 ^ 63) ≤ k ∧ k < 2 ^ 63 ∧ xs.length * k.toNat ≤ sizeLine ∧ ∀ p, H p = none → Q (.ref p) (L2.upd H p (.lst (List.replicate k.toNat xs).flatten))
theorem op_repL {X : Cx} : OpR X (binaryOp .Mult) rRepL := opR_mono op_rep fun _ _ _ _ ⟨l, e, k, e2, xs, h1, h2, h3, h4, q⟩ => ⟨l, k, xs, e, e2, h1, h2, h3, h4, q⟩
def rCatL (x y : V) (H : Hp) (Q : VK) : Prop := ∃ l, x = .ref l ∧ ∃ b, y = .ref b ∧ ∃ xs, H l = some (.lst xs) ∧ ∃ zs, H b = some (.lst zs) ∧ xs.length + zs.length ≤ sizeLine ∧ ∀ p, H p = none → Q (.ref p) (L2.upd H p (.lst (xs ++ zs)))
theorem op_catL {X : Cx} : OpR X (binaryOp .Add) rCatL := opR_mono op_cat fun _ _ _ _ ⟨l, e, b, e2, xs, h1, zs, h2, h3, q⟩ => ⟨l, b, xs, zs, e, e2, h1, h2, h3, q⟩
theorem mul_le {z : Str} {n : Int} {L N : Nat} (h1 : z.length ≤ L) (h2 : n ≤ (N : Int)) : (Txt.mul z n).length ≤ L * N := len_mul_leN h1 h2
end K01
namespace K01
open PySem PySem.Spec PyProof.Rows L2
local macro_rules | `(tactic| walk_at "rd") => `(tactic| simp only [start1, wipe, isR, isBool, isInt, isStr, isLst, isTup, tAsg, gName, gSub, tVar, tC, tOp, tUn, tTest, tIfS, tRet, tRetN, tDrop, tB, tAnd, tOr, tNot, tAndV, tOrV, tNotV, tIf, tCB, tCons, tNil, tNext, tCall, tBM, tTup, tLst, rI0, rI, rEq, rNe, scal, forR_eq, forR2_eq, forS_eq, forL_eq, lcL_eq, lcR_eq, lcS_eq, rLenX, rLenS, rMulS, rRepL, rCatL, tPart, tNoPart, CwR.tReplC, rAllK, rInSg, rNinSg, sgn_inj, rAddS, rInSt, tChain, tM1, tM0, rSplitN, rJoinN, exists_eq, rIntI, rIntB, rIntS, rStrI, rAbs, rOrd, rMin, rMax, rIxL, rIxX, rSetL, rAppend, rIxS, rSlS, rSlL, tSl, List.map_cons, List.map_nil, List.replicate_succ, List.replicate_zero, List.length_cons, List.length_nil, Nat.reduceSub, Nat.reduceAdd, Nat.zero_add, Nat.sub_self, List.getElem?_cons_zero, List.getElem?_cons_succ, List.set_cons_zero, List.set_cons_succ, List.append_nil, List.nil_append, List.cons_append, Option.some.injEq, not_true_eq_false, reduceCtorEq, exists_eq_left', exists_eq_left, exists_eq', exists_and_left, exists_and_right, V.int.injEq, V.str.injEq, V.bl.injEq, V.ref.injEq, List.cons.injEq, and_true, true_and, and_assoc, decide_eq_true_eq, Bool.not_eq_true', decide_eq_false_iff_not, ite_true, ite_false, if_true, if_false, Bool.not_true, Bool.not_false, Bool.false_eq_true, eq_self_iff_true, reduceIte, ne_eq, Int.reduceEq, not_false_eq_true])
local macro_rules | `(tactic| walk_at "rt") => `(tactic| try walk_at "rd")
local macro_rules | `(tactic| walk_at "st") => `(tactic| (walk_at "rt"; refine r_seq ?_; walk_at "rt"))
local macro_rules | `(tactic| walk_at "hp") => `(tactic| first | assumption | exact upd_same | (rw [upd_ne (by assumption)]; walk_at "hp"))
local macro_rules | `(tactic| walk_at "ex1") => `(tactic| ((with_reducible refine Exists.intro ?w (And.intro ?hx ?_)); (case hx => first | exact sq_of (by walk_at "hp") | exact .inl (sq_of (by walk_at "hp")) | exact rfl | (show _ = some (HO.lst _); walk_at "hp"))))
local macro_rules | `(tactic| walk_at "ex") => `(tactic| repeat (first | walk_at "ex1" | walk_at "rd"))
/-! ### data -/
inductive Dat where
  | non | bl (b : Bool) | int (i : Int) | str (s : Str) | lst (l : List Dat) | tup (l : List Dat)
mutual
def At (H : Hp) (A : Addr → Prop) : Dat → V → Prop
  | .non, v => v = .non
  | .bl b, v => v = .bl b
  | .int i, v => v = .int i
  | .str s, v => v = .str s
  | .lst l, v => ∃ a xs, v = .ref a ∧ A a ∧ H a = some (.lst xs) ∧ xs.length ≤ 1000000 ∧ AtL H A l xs
  | .tup l, v => ∃ a xs, v = .ref a ∧ A a ∧ H a = some (.tup xs) ∧ xs.length ≤ 1000000 ∧ AtL H A l xs
def AtL (H : Hp) (A : Addr → Prop) : List Dat → List V → Prop
  | [], xs => xs = []
  | d :: l, xs => ∃ v r, xs = v :: r ∧ At H A d v ∧ AtL H A l r
end
mutual
def Dat.dep : Dat → Nat
  | .lst l => depL l + 1
  | .tup l => depL l + 1
  | _ => 0
def depL : List Dat → Nat
  | [] => 0
  | d :: l => max d.dep (depL l)
end
mutual
def same : Dat → Dat → Bool
  | .non, .non => true
  | .bl a, .bl b => decide (a = b)
  | .int a, .int b => decide (a = b)
  | .str a, .str b => decide (a = b)
  | .lst l, .lst m => sameL l m
  | .tup l, .tup m => sameL l m
  | _, _ => false
def sameL : List Dat → List Dat → Bool
  | [], [] => true
  | d :: l, e :: m => same d e && sameL l m
  | _, _ => false
end
mutual
theorem same_refl : ∀ d : Dat, same d d = true
  | .non => rfl
  | .bl _ => by simp [same]
  | .int _ => by simp [same]
  | .str _ => by simp [same]
  | .lst l => by rw [same]; exact sameL_refl l
  | .tup l => by rw [same]; exact sameL_refl l
theorem sameL_refl : ∀ l : List Dat, sameL l l = true
  | [] => rfl
  | d :: l => by rw [sameL, same_refl d, sameL_refl l]; rfl
end
mutual
theorem At.mono {H H' : Hp} {A A' : Addr → Prop} (hA : ∀ p, A p → A' p) (k : ∀ p o, A p → H p = some o → H' p = some o) : ∀ (d : Dat) (v : V), At H A d v → At H' A' d v
  | .non, _, h => h
  | .bl _, _, h => h
  | .int _, _, h => h
  | .str _, _, h => h
  | .lst l, _, ⟨a, xs, e, ha, hx, hl, hr⟩ => ⟨a, xs, e, hA a ha, k a _ ha hx, hl, AtL.mono hA k l xs hr⟩
  | .tup l, _, ⟨a, xs, e, ha, hx, hl, hr⟩ => ⟨a, xs, e, hA a ha, k a _ ha hx, hl, AtL.mono hA k l xs hr⟩
theorem AtL.mono {H H' : Hp} {A A' : Addr → Prop} (hA : ∀ p, A p → A' p) (k : ∀ p o, A p → H p = some o → H' p = some o) : ∀ (l : List Dat) (xs : List V), AtL H A l xs → AtL H' A' l xs
  | [], _, h => h
  | d :: l, _, ⟨v, r, e, h1, h2⟩ => ⟨v, r, e, At.mono hA k d v h1, AtL.mono hA k l r h2⟩
end
theorem AtL.length {H : Hp} {A : Addr → Prop} : ∀ (l : List Dat) (xs : List V), AtL H A l xs → xs.length = l.length
  | [], _, h => by rw [show _ = [] from h]; rfl
  | d :: l, _, ⟨v, r, e, h1, h2⟩ => by rw [e, List.length_cons, List.length_cons, AtL.length l r h2]
theorem AtL.get {H : Hp} {A : Addr → Prop} : ∀ (l : List Dat) (xs : List V) (i : Nat) (d : Dat), AtL H A l xs → l[i]? = some d → ∃ v, xs[i]? = some v ∧ At H A d v
  | [], _, _, _, _, h => by simp at h
  | d :: l, _, 0, e, ⟨v, r, ex, h1, h2⟩, h => by
    subst ex
    cases h
    exact ⟨v, rfl, h1⟩
  | d :: l, _, i + 1, e, ⟨v, r, ex, h1, h2⟩, h => by
    subst ex
    exact AtL.get l r i e h2 h
theorem AtL.snoc {H : Hp} {A : Addr → Prop} : ∀ (l : List Dat) (xs : List V) (d : Dat) (v : V), AtL H A l xs → At H A d v → AtL H A (l ++ [d]) (xs ++ [v])
  | [], _, d, v, h, h2 => by rw [show _ = [] from h]; exact ⟨v, [], rfl, h2, rfl⟩
  | e :: l, _, d, v, ⟨w, r, ex, h1, h2⟩, h3 => by rw [ex]; exact ⟨w, r ++ [v], rfl, h1, AtL.snoc l r d v h2 h3⟩
theorem dep_get : ∀ (l : List Dat) (i : Nat) (d : Dat), l[i]? = some d → d.dep ≤ depL l
  | [], _, _, h => by simp at h
  | e :: l, 0, d, h => by cases h; rw [depL]; exact Nat.le_max_left _ _
  | e :: l, i + 1, d, h => by rw [depL]; exact Nat.le_trans (dep_get l i d h) (Nat.le_max_right _ _)
/-! ### isinstance of data -/
def isBool : Dat → Bool | .bl _ => true | _ => false
def isInt : Dat → Bool | .bl _ => true | .int _ => true | _ => false
def isStr : Dat → Bool | .str _ => true | _ => false
def isLst : Dat → Bool | .lst _ => true | _ => false
def isTup : Dat → Bool | .tup _ => true | _ => false
def tyOf : Dat → String | .non => "NoneType" | .bl _ => "bool" | .int _ => "int" | .str _ => "str" | .lst _ => "list" | .tup _ => "tuple"
theorem tyx {K : PySem.W.Frag} {H : Hp} {A : Addr → Prop} : ∀ {d : Dat} {v : V}, At H A d v → TyX K H v (.type (tyOf d))
  | .non, _, h => by rw [show _ = V.non from h]; exact .base .non
  | .bl b, _, h => by rw [show _ = V.bl b from h]; exact .base (.bl b)
  | .int b, _, h => by rw [show _ = V.int b from h]; exact .base (.int b)
  | .str b, _, h => by rw [show _ = V.str b from h]; exact .base (.str b)
  | .lst l, _, ⟨a, xs, e, _, hx, _⟩ => by subst e; exact .base (.lst hx)
  | .tup l, _, ⟨a, xs, e, _, hx, _⟩ => by subst e; exact .base (.tup hx)
def isR (T : String) (p : Dat → Bool) : List V → Hp → VK → Prop := fun xs H Q => ∃ x, xs = [x, .ty T] ∧ ∃ A d, At H A d x ∧ Q (.bl (p d)) H
theorem call_is {X : Cx} (T : String) (p : Dat → Bool) (h : ∀ d, kitB (tyOf d) T = some (p d)) : CallR X (.builtin "isinstance") (isR T p) := callR_mono call_isi fun xs H Q ⟨x, e, A, d, ha, q⟩ =>
  ⟨x, .ty T, _, _, p d, e, .ty T, tyx ha, kit_ty (h d), q⟩
theorem call_is_bool {X : Cx} : CallR X (.builtin "isinstance") (isR "bool" isBool) := call_is _ _ fun d => by cases d <;> (simp only [tyOf, isBool]; decide +kernel)
theorem call_is_int {X : Cx} : CallR X (.builtin "isinstance") (isR "int" isInt) := call_is _ _ fun d => by cases d <;> (simp only [tyOf, isInt]; decide +kernel)
theorem call_is_str {X : Cx} : CallR X (.builtin "isinstance") (isR "str" isStr) := call_is _ _ fun d => by cases d <;> (simp only [tyOf, isStr]; decide +kernel)
theorem call_is_dict {X : Cx} : CallR X (.builtin "isinstance") (isR "dict" fun _ => false) := call_is _ _ fun d => by cases d <;> (simp only [tyOf]; decide +kernel)
theorem call_is_list {X : Cx} : CallR X (.builtin "isinstance") (isR "list" isLst) := call_is _ _ fun d => by cases d <;> (simp only [tyOf, isLst]; decide +kernel)
theorem call_is_tuple {X : Cx} : CallR X (.builtin "isinstance") (isR "tuple" isTup) := call_is _ _ fun d => by cases d <;> (simp only [tyOf, isTup]; decide +kernel)
end K01
namespace K01
open PySem PySem.Spec PyProof.Rows L2 TL
/-! ### texts: cutting and joining at one sign -/
theorem pre1 (s c : Nat) (r : List Nat) : pre [s] (c :: r) = (c == s) := by
  show ((c :: r).take 1 == [s]) = (c == s)
  simp
theorem spl_ne (s : Nat) : ∀ (l acc : List Nat), spl [s] 0 acc l ≠ []
  | [], acc => by rw [spl_nil]; simp
  | c :: r, acc => by
    by_cases h : pre [s] (c :: r) = true
    · rw [spl_hit h]; simp
    · rw [spl_miss (by simpa using h)]; exact spl_ne s r _
theorem join_spl (s : Nat) : ∀ (l acc : List Nat), joinL [s] (spl [s] 0 acc l) = acc ++ l
  | [], acc => by rw [spl_nil, List.append_nil]; rfl
  | c :: r, acc => by
    by_cases h : pre [s] (c :: r) = true
    · have e : c = s := by rw [pre1] at h; simpa using h
      rw [spl_hit h]
      have ih := join_spl s r []
      have hne := spl_ne s r []
      show joinL [s] (acc :: spl [s] 0 [] r) = acc ++ c :: r
      cases e2 : spl [s] 0 [] r with
      | nil => exact absurd e2 hne
      | cons q t =>
        rw [e2] at ih
        show acc ++ ([s] ++ joinL [s] (q :: t)) = acc ++ c :: r
        rw [ih, e]
        rfl
    · rw [spl_miss (by simpa using h), join_spl s r, List.append_assoc]
      rfl
theorem spl_free (s : Nat) : ∀ (l acc : List Nat), s ∉ acc → ∀ p ∈ spl [s] 0 acc l, s ∉ p
  | [], acc, h, p, hp => by rw [spl_nil] at hp; rw [List.mem_singleton.mp hp]; exact h
  | c :: r, acc, h, p, hp => by
    by_cases hc : pre [s] (c :: r) = true
    · rw [spl_hit hc] at hp
      rcases List.mem_cons.mp hp with e | hp
      · rw [e]; exact h
      · exact spl_free s r [] (by simp) p hp
    · rw [spl_miss (by simpa using hc)] at hp
      refine spl_free s r _ (fun hm => ?_) p hp
      rcases List.mem_append.mp hm with hm | hm
      · exact h hm
      · rw [pre1] at hc
        exact hc (by rw [List.mem_singleton.mp hm]; simp)
theorem spl_sub (s : Nat) : ∀ (l acc : List Nat) (t : Nat), t ∉ l → t ∉ acc → ∀ p ∈ spl [s] 0 acc l, t ∉ p
  | [], acc, t, _, h, p, hp => by rw [spl_nil] at hp; rw [List.mem_singleton.mp hp]; exact h
  | c :: r, acc, t, hl, h, p, hp => by
    have hr : t ∉ r := fun z => hl (List.mem_cons_of_mem _ z)
    by_cases hc : pre [s] (c :: r) = true
    · rw [spl_hit hc] at hp
      rcases List.mem_cons.mp hp with e | hp
      · rw [e]; exact h
      · exact spl_sub s r [] t hr (by simp) p hp
    · rw [spl_miss (by simpa using hc)] at hp
      refine spl_sub s r _ t hr (fun hm => ?_) p hp
      rcases List.mem_append.mp hm with hm | hm
      · exact h hm
      · exact hl (by rw [List.mem_singleton.mp hm]; exact List.mem_cons_self)
theorem joinL_len (s : Nat) : ∀ (ps : List (List Nat)), ps ≠ [] → (joinL [s] ps).length + 1 = (ps.map (·.length)).sum + ps.length
  | [], h => absurd rfl h
  | [p], _ => by
    show p.length + 1 = p.length + 0 + 1
    omega
  | p :: q :: r, _ => by
    have ih := joinL_len s (q :: r) (by simp)
    show (p ++ ([s] ++ joinL [s] (q :: r))).length + 1 = _
    rw [List.map_cons, List.sum_cons, List.length_append, List.length_append, List.length_cons (as := q :: r)]
    simp only [List.length_cons, List.length_nil] at ih ⊢
    omega
def nl : Str := Str.ofString "\n"
def sp : Str := Str.ofString " "
theorem tl_nl : tl nl = [10] := by decide +kernel
theorem tl_sp : tl sp = [32] := by decide +kernel
theorem kind_nl : nl.cps.all (· < 256) = true := by decide +kernel
theorem kind_sp : sp.cps.all (· < 256) = true := by decide +kernel
section
variable {y : Str} {s : Nat}
theorem split_tl (ey : tl y = [s]) (hk : y.cps.all (· < 256) = true) (x : Str) : (Txt.split x y).map tl = spl [s] 0 [] (tl x) := by
  rw [split_spl _ y (by rw [ey]; simp) (kind_ok hk), ey]
theorem split_ne (ey : tl y = [s]) (hk : y.cps.all (· < 256) = true) (x : Str) : Txt.split x y ≠ [] := fun e => by
  have h := split_tl ey hk x
  rw [e] at h
  exact spl_ne s _ _ h.symm
theorem join_split (ey : tl y = [s]) (hk : y.cps.all (· < 256) = true) (x : Str) : Txt.join y (Txt.split x y) = x := by
  refine ext_tl ?_
  rw [join_eq, tl_join, ey, split_tl ey hk, join_spl, List.nil_append]
theorem split_free (ey : tl y = [s]) (hk : y.cps.all (· < 256) = true) (x : Str) : ∀ p ∈ Txt.split x y, s ∉ tl p := fun p hp =>
  spl_free s (tl x) [] (by simp) (tl p) (by rw [← split_tl ey hk x]; exact List.mem_map_of_mem hp)
theorem split_sub (ey : tl y = [s]) (hk : y.cps.all (· < 256) = true) (x : Str) {t : Nat} (h : t ∉ tl x) : ∀ p ∈ Txt.split x y, t ∉ tl p := fun p hp =>
  spl_sub s (tl x) [] t h (by simp) (tl p) (by rw [← split_tl ey hk x]; exact List.mem_map_of_mem hp)
theorem join_len (ey : tl y = [s]) (ps : List Str) (h : ps ≠ []) : (Txt.join y ps).length + 1 = (ps.map (·.length)).sum + ps.length := by
  rw [len_tl, join_eq, tl_join, ey, joinL_len s _ (by simpa using h), List.map_map, List.length_map]
  have e : (ps.map (List.length ∘ tl)) = ps.map (·.length) := List.map_congr_left fun p _ => (len_tl p).symm
  rw [e]
theorem split_len (ey : tl y = [s]) (hk : y.cps.all (· < 256) = true) (x : Str) : ((Txt.split x y).map (·.length)).sum + (Txt.split x y).length = x.length + 1 := by
  rw [← join_len ey _ (split_ne ey hk x), join_split ey hk]
end
/-! ### lines of words -/
abbrev Lines := List (List Str)
def splitW (z : Str) : Lines := (Txt.split z nl).map fun l => Txt.split l sp
def joinW (ls : Lines) : Str := Txt.join nl (ls.map fun ws => Txt.join sp ws)
def plainW (ls : Lines) : Prop := ls ≠ [] ∧ ∀ ws ∈ ls, ws ≠ [] ∧ ∀ x ∈ ws, 32 ∉ tl x ∧ 10 ∉ tl x
theorem splitW_plain (z : Str) : plainW (splitW z) := by
  refine ⟨fun e => split_ne tl_nl kind_nl z (List.map_eq_nil_iff.mp e), fun ws hw => ?_⟩
  obtain ⟨l, hl, rfl⟩ := List.mem_map.mp hw
  exact ⟨split_ne tl_sp kind_sp l, fun x hx => ⟨split_free tl_sp kind_sp l x hx, split_sub tl_sp kind_sp l (split_free tl_nl kind_nl z l hl) x hx⟩⟩
theorem joinW_splitW (z : Str) : joinW (splitW z) = z := by
  show Txt.join nl (((Txt.split z nl).map fun l => Txt.split l sp).map fun ws => Txt.join sp ws) = z
  rw [List.map_map]
  have e : ((Txt.split z nl).map ((fun ws => Txt.join sp ws) ∘ fun l => Txt.split l sp)) = Txt.split z nl := by
    refine (List.map_congr_left fun l _ => ?_).trans (List.map_id _)
    exact join_split tl_sp kind_sp l
  rw [e, join_split tl_nl kind_nl]
theorem mem_joinL {s t : Nat} : ∀ {ps : List (List Nat)}, t ∈ joinL [s] ps → t = s ∨ ∃ p ∈ ps, t ∈ p
  | [], h => by cases h
  | [p], h => .inr ⟨p, List.mem_cons_self, h⟩
  | p :: q :: r, h => by
    rcases List.mem_append.mp (show t ∈ p ++ ([s] ++ joinL [s] (q :: r)) from h) with h | h
    · exact .inr ⟨p, List.mem_cons_self, h⟩
    · rcases List.mem_append.mp h with h | h
      · exact .inl (List.mem_singleton.mp h)
      · rcases mem_joinL h with h | ⟨p', hp, h⟩
        · exact .inl h
        · exact .inr ⟨p', List.mem_cons_of_mem _ hp, h⟩
theorem splitW_joinW {ls : Lines} (h : plainW ls) : splitW (joinW ls) = ls := by
  show (Txt.split (Txt.join nl (ls.map fun ws => Txt.join sp ws)) nl).map (fun l => Txt.split l sp) = ls
  rw [split_join tl_nl kind_nl (by simpa using h.1) fun p hp => ?_, List.map_map]
  · refine (List.map_congr_left fun ws hw => ?_).trans (List.map_id _)
    exact split_join tl_sp kind_sp (h.2 ws hw).1 fun p hp => ((h.2 ws hw).2 p hp).1
  · obtain ⟨ws, hw, rfl⟩ := List.mem_map.mp hp
    intro hm
    rw [join_eq, tl_join, tl_sp] at hm
    rcases mem_joinL hm with e | ⟨p, hp, hm⟩
    · cases e
    · obtain ⟨x, hx, rfl⟩ := List.mem_map.mp hp
      exact ((h.2 ws hw).2 x hx).2 hm
/-- how much there is -/
def totW (ls : Lines) : Nat := (ls.map fun ws => (ws.map (·.length)).sum + ws.length + 1).sum
theorem sum_le_of {α : Type} (f : α → Nat) : ∀ (l : List α) (x : α), x ∈ l → f x ≤ (l.map f).sum
  | [], _, h => by cases h
  | a :: l, x, h => by
    rw [List.map_cons, List.sum_cons]
    rcases List.mem_cons.mp h with e | h
    · rw [e]; omega
    · have := sum_le_of f l x h
      omega
theorem length_le_sum {α : Type} (f : α → Nat) (k : ∀ x, 1 ≤ f x) : ∀ l : List α, l.length ≤ (l.map f).sum
  | [] => Nat.le_refl _
  | a :: l => by
    rw [List.map_cons, List.sum_cons, List.length_cons]
    have := length_le_sum f k l
    have := k a
    omega
theorem totW_len (ls : Lines) : ls.length ≤ totW ls := length_le_sum _ (fun _ => by omega) ls
theorem totW_row {ls : Lines} {ws : List Str} (h : ws ∈ ls) : (ws.map (·.length)).sum + ws.length + 1 ≤ totW ls := sum_le_of (fun ws => (ws.map (·.length)).sum + ws.length + 1) ls ws h
theorem joinW_le (ls : Lines) : ((ls.map fun ws => Txt.join sp ws).map (·.length)).sum + ls.length ≤ totW ls := by
  induction ls with
  | nil => exact Nat.le_refl _
  | cons ws r ih =>
    show ((Txt.join sp ws).length + ((r.map fun ws => Txt.join sp ws).map (·.length)).sum) + (r.length + 1) ≤ ((ws.map (·.length)).sum + ws.length + 1) + totW r
    have h : (Txt.join sp ws).length ≤ (ws.map (·.length)).sum + ws.length := by
      cases ws with
      | nil => exact Nat.le_of_eq (by rw [join_eq]; rfl)
      | cons x t =>
        have := join_len tl_sp (x :: t) (by simp)
        omega
    omega
theorem splitW_tot (z : Str) : totW (splitW z) ≤ 3 * z.length + 3 := by
  have h1 := split_len tl_nl kind_nl z
  have h2 : ∀ ls : List Str, totW (ls.map fun l => Txt.split l sp) = (ls.map (·.length)).sum + 2 * ls.length := by
    intro ls
    induction ls with
    | nil => rfl
    | cons l r ih =>
      have h3 := split_len tl_sp kind_sp l
      show ((Txt.split l sp).map (·.length)).sum + (Txt.split l sp).length + 1 + totW (r.map fun l => Txt.split l sp) = (l.length + (r.map (·.length)).sum) + 2 * (r.length + 1)
      omega
  show totW ((Txt.split z nl).map fun l => Txt.split l sp) ≤ _
  rw [h2]
  omega
end K01
namespace K01
open PySem PySem.Spec PyProof.Rows L2
local macro_rules | `(tactic| walk_at "rd") => `(tactic| simp only [start1, wipe, isR, isBool, isInt, isStr, isLst, isTup, tAsg, gName, gSub, tVar, tC, tOp, tUn, tTest, tIfS, tRet, tRetN, tDrop, tB, tAnd, tOr, tNot, tAndV, tOrV, tNotV, tIf, tCB, tCons, tNil, tNext, tCall, tBM, tTup, tLst, rI0, rI, rEq, rNe, scal, forR_eq, forR2_eq, forS_eq, forL_eq, lcL_eq, lcR_eq, lcS_eq, rLenX, rLenS, rMulS, rRepL, rCatL, tPart, tNoPart, CwR.tReplC, rAllK, rInSg, rNinSg, sgn_inj, rAddS, rInSt, tChain, tM1, tM0, rSplitN, rJoinN, exists_eq, rIntI, rIntB, rIntS, rStrI, rAbs, rOrd, rMin, rMax, rIxL, rIxX, rSetL, rAppend, rIxS, rSlS, rSlL, tSl, List.map_cons, List.map_nil, List.replicate_succ, List.replicate_zero, List.length_cons, List.length_nil, Nat.reduceSub, Nat.reduceAdd, Nat.zero_add, Nat.sub_self, List.getElem?_cons_zero, List.getElem?_cons_succ, List.set_cons_zero, List.set_cons_succ, List.append_nil, List.nil_append, List.cons_append, Option.some.injEq, not_true_eq_false, reduceCtorEq, exists_eq_left', exists_eq_left, exists_eq', exists_and_left, exists_and_right, V.int.injEq, V.str.injEq, V.bl.injEq, V.ref.injEq, List.cons.injEq, and_true, true_and, and_assoc, decide_eq_true_eq, Bool.not_eq_true', decide_eq_false_iff_not, ite_true, ite_false, if_true, if_false, Bool.not_true, Bool.not_false, Bool.false_eq_true, eq_self_iff_true, reduceIte, ne_eq, Int.reduceEq, not_false_eq_true])
local macro_rules | `(tactic| walk_at "rt") => `(tactic| try walk_at "rd")
local macro_rules | `(tactic| walk_at "st") => `(tactic| (walk_at "rt"; refine r_seq ?_; walk_at "rt"))
local macro_rules | `(tactic| walk_at "hp") => `(tactic| first | assumption | exact upd_same | (rw [upd_ne (by assumption)]; walk_at "hp"))
local macro_rules | `(tactic| walk_at "ex1") => `(tactic| ((with_reducible refine Exists.intro ?w (And.intro ?hx ?_)); (case hx => first | exact sq_of (by walk_at "hp") | exact .inl (sq_of (by walk_at "hp")) | exact rfl | (show _ = some (HO.lst _); walk_at "hp"))))
local macro_rules | `(tactic| walk_at "ex") => `(tactic| repeat (first | walk_at "ex1" | walk_at "rd"))
abbrev s_mixed : Stmt := topS 29
theorem sc_mixed : FnScope ["number", "turn", "many", "one", "two", "three", "value"] ["number", "turn", "many"] (defScope s_mixed) := ⟨rfl, rfl, rfl, by decide +kernel, rfl, by decide +kernel, by decide +kernel⟩
abbrev s_take : Stmt := topS 30
theorem sc_take : FnScope ["store", "many", "value", "number", "cell"] ["store", "many"] (defScope s_take) := ⟨rfl, rfl, rfl, by decide +kernel, rfl, by decide +kernel, by decide +kernel⟩
abbrev s_pick : Stmt := topS 31
theorem sc_pick : FnScope ["store", "row"] ["store", "row"] (defScope s_pick) := ⟨rfl, rfl, rfl, by decide +kernel, rfl, by decide +kernel, by decide +kernel⟩
abbrev s_chance : Stmt := topS 32
theorem sc_chance : FnScope ["store", "many"] ["store", "many"] (defScope s_chance) := ⟨rfl, rfl, rfl, by decide +kernel, rfl, by decide +kernel, by decide +kernel⟩
abbrev s_number : Stmt := topS 33
theorem sc_number : FnScope ["store", "low", "high", "kind"] ["store", "low", "high"] (defScope s_number) := ⟨rfl, rfl, rfl, by decide +kernel, rfl, by decide +kernel, by decide +kernel⟩

/-! ### the store that draws -/
structure StoreAt (H : Hp) (a c : Addr) : Prop where
  ex : ∃ (cells : List Int) (pos val turn seed : Int), H a = some (.lst [.ref c, .int pos, .int val, .int turn, .int seed]) ∧ H c = some (.lst (cells.map V.int)) ∧ 0 ≤ pos ∧ 0 ≤ val
  ne : c ≠ a
/-- what a draw leaves -/
def Drawn (H : Hp) (a c : Addr) (R : V → Prop) (Q : VK) : Prop := ∀ v H', StoreAt H' a c → But a H H' → R v → Q v H'
def spMixed : Sp := fun vs H Q _ => ∃ (n t m : Int), vs = [.int n, .int t, .int m] ∧ 2 ≤ m ∧ ∀ r : Int, 0 ≤ r → r < m → Q (.int r) H
/-- a number below many -/
def Below (m : Int) (v : V) : Prop := ∃ r : Int, v = .int r ∧ 0 ≤ r ∧ (r < m ∨ r = 0)
def spTake : Sp := fun vs H Q _ => ∃ (a c : Addr) (m : Int), vs = [.ref a, .int m] ∧ StoreAt H a c ∧ m ≤ 2 ^ 70 ∧ Drawn H a c (Below m) Q
theorem fm {x M y : Int} (hM : 0 < M) (e : x.fmod M = y) : 0 ≤ y ∧ y < M := by
  rw [← e, Int.fmod_eq_emod_of_nonneg _ (by omega)]
  exact ⟨Int.emod_nonneg _ (by omega), Int.emod_lt_of_pos _ hM⟩
theorem small_div {m : Int} (h2 : 2 ≤ m) (h : m ≤ 2 ^ 70) (x : Int) : CDivW x m := wide_div (b := 71) (by omega) (by omega) (by decide) (by decide)
section
variable {P : Program} {w : World} {K : PySem.W.Frag} {mg : Str → Option Value} {base : Heap}
theorem ok_mixed {f : Addr} {fd : FuncData} (B : Bi mg) (D : Dn K mg "_law_mixed" s_mixed ["number", "turn", "many"] f fd) : FnOk P w K mg base CX0 1 f fd ["number", "turn", "many"] spMixed := by
  refine D.F.ok sc_mixed (fun vs H Q E h => ?_) (fun cdv A outer s H vs Q E hr h => ?_)
  · obtain ⟨n, t, m, rfl, _⟩ := h
    rfl
  · obtain ⟨n, t, m, rfl, hm, q⟩ := h
    refine ⟨_, (pss_cons (ps_set (i := 3) sc_mixed.nd rfl (.inl rfl) (pe_op op_modN (pe_callTy call_intI (by rfl) B.int_ (by decide +kernel) (pa_cons (pe_op op_add (pe_op op_add (pe_op op_mul (pv 0) pe_int) (pe_op op_mul (pv 1) pe_int)) pe_int) pa_nil)) pe_int))
      (pss_cons (ps_set (i := 4) sc_mixed.nd rfl (.inl rfl) (pe_op op_modN (pe_callTy call_intI (by rfl) B.int_ (by decide +kernel) (pa_cons (pe_op op_add (pe_op op_add (pe_op op_mul (pv 3) (pv 3)) (pv 1)) pe_int) pa_nil)) pe_int))
      (pss_cons (ps_set (i := 5) sc_mixed.nd rfl (.inl rfl) (pe_op op_modN (pe_callTy call_intI (by rfl) B.int_ (by decide +kernel) (pa_cons (pe_op op_add (pe_op op_mul (pv 4) (pv 4)) (pv 3)) pa_nil)) pe_int))
      (pss_cons (ps_set (i := 6) sc_mixed.nd rfl (.inl rfl) (pe_op op_fdivW (pv 5) pe_int))
      (C8.pss_cut (ps_if (pt_cmpR op_gt (pv 2) pe_int (nomark _)) (pss_one (ps_set (i := 6) sc_mixed.nd rfl (.inl rfl) (pe_op op_add (pe_op op_mul (pv 6) pe_int) (pe_op op_modN (pe_callTy call_intI (by rfl) B.int_ (by decide +kernel) (pa_cons (pe_op op_add (pe_op op_mul (pv 5) (pv 5)) (pv 4)) pa_nil)) pe_int)))) pss_nil)
      (pss_one (ps_ret (pe_op op_modN (pe_callTy call_intI (by rfl) B.int_ (by decide +kernel) (pa_cons (pv 6) pa_nil)) (pv 2))))))))), ?_⟩
    walk_at "st"
    refine ⟨.inr ⟨by decide, by decide⟩, .inr ⟨by decide, by decide⟩, ?_⟩
    generalize e1 : Int.fmod _ _ = one
    obtain ⟨a1, b1⟩ := fm (by decide) e1
    walk_at "st"
    refine ⟨.inl ⟨by omega, by omega⟩, ?_⟩
    generalize e2 : Int.fmod _ _ = two
    obtain ⟨a2, b2⟩ := fm (by decide) e2
    walk_at "st"
    refine ⟨.inl ⟨by omega, by omega⟩, ?_⟩
    generalize e3 : Int.fmod _ _ = three
    obtain ⟨a3, b3⟩ := fm (by decide) e3
    walk_at "st"
    refine ⟨⟨by decide, by decide⟩, ?_⟩
    refine r_cut (fun σ' H' => (∃ v : Int, σ' = [some (.int n), some (.int t), some (.int m), some (.int one), some (.int two), some (.int three), some (.int v)]) ∧ H' = H) (fun N k => ?_) ?_
    · walk_at "rt"
      exact ite2 (fun _ => ⟨.inr ⟨by decide, by decide⟩, .inl ⟨by omega, by omega⟩, k _ _ ⟨⟨_, rfl⟩, rfl⟩⟩) (fun _ => k _ _ ⟨⟨_, rfl⟩, rfl⟩)
    · rintro σ' H' ⟨⟨v, rfl⟩, rfl⟩
      walk_at "rt"
      generalize e4 : Int.fmod _ _ = r
      obtain ⟨a4, b4⟩ := fm (by omega) e4
      exact ⟨by omega, q r a4 b4⟩
theorem ok_take {f fM : Addr} {fd fdM : FuncData} (B : Bi mg) (D : Dn K mg "_law_take" s_take ["store", "many"] f fd) (D_mixed : Dn K mg "_law_mixed" s_mixed ["number", "turn", "many"] fM fdM) : FnOk P w K mg base CX0 2 f fd ["store", "many"] spTake := by
  have G_mixed : FnOk P w K mg base CX0 1 fM fdM ["number", "turn", "many"] spMixed := ok_mixed B D_mixed
  refine D.F.ok sc_take (fun vs H Q E h => ?_) (fun cdv A outer s H vs Q E hr h => ?_)
  · obtain ⟨a, c, m, rfl, _⟩ := h
    rfl
  · obtain ⟨a, c, m, rfl, S, hm, q⟩ := h
    obtain ⟨cells, pos, val, turn, seed, ha, hc, h0, hv⟩ := S.ex
    refine ⟨_, (pss_cons (ps_if (pt_cmpR op_lt (pv 1) pe_int (nomark _)) (pss_one (ps_ret pe_int)) pss_nil)
      (pss_cons (ps_set (i := 2) sc_take.nd rfl (.inl rfl) (pe_ix (ix_listK (K := K)) (pv 0) pe_int (fun _ _ => rfl)))
      (pss_cons (ps_set (i := 3) sc_take.nd rfl (.inl rfl) (pe_ix (ix_listK (K := K)) (pv 0) pe_int (fun _ _ => rfl)))
      (C8.pss_cut (ps_if (pt_cmpR op_eq (pv 2) pe_int (nomark _)) (pss_cons (ps_asg (pe_op op_add (pe_ix (ix_listK (K := K)) (pv 0) pe_int (fun _ _ => rfl)) pe_int) (pg_sub (pv 0) pe_int set_list (fun _ => rfl)))
      (pss_one (ps_if (pt_cmpR op_lt (pe_ix (ix_listK (K := K)) (pv 0) pe_int (fun _ _ => rfl)) (pe_callB (call_lenXK (K := K)) (by rfl) B.len PySem.boot_len (pa_cons (pe_ix (ix_listK (K := K)) (pv 0) pe_int (fun _ _ => rfl)) pa_nil)) (nomark _)) (pss_cons (ps_set (i := 4) sc_take.nd rfl (.inl rfl) (pe_ix (ix_listK (K := K)) (pe_ix (ix_listK (K := K)) (pv 0) pe_int (fun _ _ => rfl)) (pe_ix (ix_listK (K := K)) (pv 0) pe_int (fun _ _ => rfl)) (fun _ _ => rfl)))
      (pss_cons (ps_asg (pe_op op_add (pe_ix (ix_listK (K := K)) (pv 0) pe_int (fun _ _ => rfl)) pe_int) (pg_sub (pv 0) pe_int set_list (fun _ => rfl)))
      (pss_cons (ps_set (i := 3) sc_take.nd rfl (.inl rfl) (pe_op op_mul (pe_callB call_absI (by rfl) B.abs (by decide +kernel) (pa_cons (pv 4) pa_nil)) pe_int))
      (C8.pss_cut (ps_if (pt_cmpR op_lt (pv 4) pe_int (nomark _)) (pss_one (ps_set (i := 3) sc_take.nd rfl (.inl rfl) (pe_op op_add (pv 3) pe_int))) pss_nil)
      (pss_one (ps_if (pt_cmpR op_ge (pe_callB call_absI (by rfl) B.abs (by decide +kernel) (pa_cons (pv 4) pa_nil)) (pe_op op_pow pe_int pe_int) (nomark _)) (pss_one (ps_set (i := 2) sc_take.nd rfl (.inl rfl) (pe_callB call_absI (by rfl) B.abs (by decide +kernel) (pa_cons (pv 4) pa_nil)))) pss_nil)))))) pss_nil))) pss_nil)
      (pss_cons (ps_if (pt_cmpR op_eq (pv 2) pe_int (nomark _)) (pss_one (ps_ret (pe_call G_mixed (hr.mono (by omega)) (by rfl) D_mixed.g D_mixed.F.kp D_mixed.b .nil pass0 (pa_cons (pv 3) (pa_cons (pe_ix (ix_listK (K := K)) (pv 0) pe_int (fun _ _ => rfl)) (pa_cons (pv 1) pa_nil)))))) pss_nil)
      (pss_cons (ps_asg (pe_op op_fdivW (pe_callTy call_intI (by rfl) B.int_ (by decide +kernel) (pa_cons (pv 2) pa_nil)) (pv 1)) (pg_sub (pv 0) pe_int set_list (fun _ => rfl)))
      (pss_one (ps_ret (pe_op op_modN (pe_callTy call_intI (by rfl) B.int_ (by decide +kernel) (pa_cons (pv 2) pa_nil)) (pv 1)))))))))), ?_⟩
    walk_at "st"
    refine ite2 (fun hlt => ?_) (fun hge => ?_)
    · exact q _ _ S (But.refl _ _) ⟨0, rfl, by omega, .inr rfl⟩
    walk_at "st"
    refine ⟨_, sq_of ha, _, rfl, ?_⟩
    walk_at "st"
    refine ⟨_, sq_of ha, _, rfl, ?_⟩
    refine r_cut (fun σ' H' => ∃ (v n pos' turn' : Int) (x : Option V), σ' = [some (.ref a), some (.int m), some (.int v), some (.int n), x] ∧ H' a = some (.lst [.ref c, .int pos', .int val, .int turn', .int seed]) ∧ H' c = some (.lst (cells.map V.int)) ∧ 0 ≤ pos' ∧ 0 ≤ v ∧ But a H H') (fun N k => ?_) ?_
    · walk_at "rt"
      refine ite2 (fun hz => ?_) (fun hz => k _ _ ⟨_, _, _, _, _, rfl, ha, hc, h0, hv, But.refl _ _⟩)
      have nca := S.ne
      walk_at "st"
      walk_at "ex"
      generalize hH1 : upd H a _ = H1
      have ha1 : H1 a = some (.lst [.ref c, .int pos, .int val, .int (turn + 1), .int seed]) := by rw [← hH1]; exact upd_same
      have hc1 : H1 c = some (.lst (cells.map V.int)) := by rw [← hH1, upd_ne nca]; exact hc
      have b1 : But a H H1 := by rw [← hH1]; exact But.updA
      refine ite2 (fun hp => ?_) (fun hp => k _ _ ⟨_, _, _, _, _, rfl, ha1, hc1, h0, hv, b1⟩)
      have hp' : pos.toNat < cells.length := by
        rw [List.length_map] at hp
        omega
      obtain ⟨cell, hat⟩ := atI_map h0 hp'
      walk_at "st"
      walk_at "ex"

      refine ⟨_, hat, ?_⟩
      walk_at "st"
      walk_at "ex"
      generalize hH2 : upd H1 a _ = H2
      have ha2 : H2 a = some (.lst [.ref c, .int (pos + 1), .int val, .int (turn + 1), .int seed]) := by rw [← hH2]; exact upd_same
      have hc2 : H2 c = some (.lst (cells.map V.int)) := by rw [← hH2, upd_ne nca]; exact hc1
      have b2 : But a H H2 := b1.trans (by rw [← hH2]; exact But.updA)
      walk_at "st"
      refine ⟨.inr ⟨by decide, by decide⟩, ?_⟩
      refine r_cut (fun σ' H' => ∃ (n : Int), σ' = [some (.ref a), some (.int m), some (.int val), some (.int n), some (.int cell)] ∧ H' = H2) (fun N' k' => ?_) ?_
      · walk_at "rt"
        exact ite2 (fun _ => k' _ _ ⟨_, rfl, rfl⟩) (fun _ => k' _ _ ⟨_, rfl, rfl⟩)
      · rintro σ' H' ⟨n, rfl, rfl⟩
        walk_at "rt"
        refine ⟨⟨by decide, by decide, by decide⟩, ite2 (fun _ => k _ _ ⟨_, _, _, _, _, rfl, ha2, hc2, by omega, by split <;> omega, b2⟩) (fun _ => k _ _ ⟨_, _, _, _, _, rfl, ha2, hc2, by omega, hv, b2⟩)⟩
    · rintro σ' H' ⟨v, n, pos', turn', x, rfl, ha', hc', h0', hv', b'⟩
      have nca := S.ne
      walk_at "st"
      refine ite2 (fun hz => ?_) (fun hz => ?_)
      · walk_at "ex"
        refine ⟨_, _, _, rfl, by omega, fun r h1 h2 => q _ _ ⟨⟨cells, pos', val, turn', seed, ha', hc', h0', hv⟩, nca⟩ b' ⟨r, rfl, h1, .inl h2⟩⟩
      · walk_at "st"
        refine ⟨small_div (by omega) hm _, ?_⟩
        walk_at "ex"
        generalize hH1 : upd H' a _ = H1
        have ha1 : H1 a = some (.lst [.ref c, .int pos', .int (v / m), .int turn', .int seed]) := by rw [← hH1]; exact upd_same
        have hc1 : H1 c = some (.lst (cells.map V.int)) := by rw [← hH1, upd_ne nca]; exact hc'
        have b1 : But a H H1 := b'.trans (by rw [← hH1]; exact But.updA)

        refine ⟨by omega, ?_⟩
        generalize e4 : Int.fmod _ _ = r
        obtain ⟨a4, b4⟩ := fm (by omega) e4
        exact q _ _ ⟨⟨cells, pos', v / m, turn', seed, ha1, hc1, h0', Int.ediv_nonneg hv' (by omega)⟩, nca⟩ b1 ⟨r, rfl, a4, .inl b4⟩
end
end K01
namespace K01
open PySem PySem.Spec PyProof.Rows L2
local macro_rules | `(tactic| walk_at "rd") => `(tactic| simp only [start1, wipe, isR, isBool, isInt, isStr, isLst, isTup, tAsg, gName, gSub, tVar, tC, tOp, tUn, tTest, tIfS, tRet, tRetN, tDrop, tB, tAnd, tOr, tNot, tAndV, tOrV, tNotV, tIf, tCB, tCons, tNil, tNext, tCall, tBM, tTup, tLst, rI0, rI, rEq, rNe, scal, forR_eq, forR2_eq, forS_eq, forL_eq, lcL_eq, lcR_eq, lcS_eq, rLenX, rLenS, rMulS, rRepL, rCatL, tPart, tNoPart, CwR.tReplC, rAllK, rInSg, rNinSg, sgn_inj, rAddS, rInSt, tChain, tM1, tM0, rSplitN, rJoinN, exists_eq, rIntI, rIntB, rIntS, rStrI, rAbs, rOrd, rMin, rMax, rIxL, rIxX, rSetL, rAppend, rIxS, rSlS, rSlL, tSl, List.map_cons, List.map_nil, List.replicate_succ, List.replicate_zero, List.length_cons, List.length_nil, Nat.reduceSub, Nat.reduceAdd, Nat.zero_add, Nat.sub_self, List.getElem?_cons_zero, List.getElem?_cons_succ, List.set_cons_zero, List.set_cons_succ, List.append_nil, List.nil_append, List.cons_append, Option.some.injEq, not_true_eq_false, reduceCtorEq, exists_eq_left', exists_eq_left, exists_eq', exists_and_left, exists_and_right, V.int.injEq, V.str.injEq, V.bl.injEq, V.ref.injEq, List.cons.injEq, and_true, true_and, and_assoc, decide_eq_true_eq, Bool.not_eq_true', decide_eq_false_iff_not, ite_true, ite_false, if_true, if_false, Bool.not_true, Bool.not_false, Bool.false_eq_true, eq_self_iff_true, reduceIte, ne_eq, Int.reduceEq, not_false_eq_true])
local macro_rules | `(tactic| walk_at "rt") => `(tactic| try walk_at "rd")
local macro_rules | `(tactic| walk_at "st") => `(tactic| (walk_at "rt"; refine r_seq ?_; walk_at "rt"))
local macro_rules | `(tactic| walk_at "hp") => `(tactic| first | assumption | exact upd_same | (rw [upd_ne (by assumption)]; walk_at "hp"))
local macro_rules | `(tactic| walk_at "ex1") => `(tactic| ((with_reducible refine Exists.intro ?w (And.intro ?hx ?_)); (case hx => first | exact sq_of (by walk_at "hp") | exact .inl (sq_of (by walk_at "hp")) | exact rfl | (show _ = some (HO.lst _); walk_at "hp"))))
local macro_rules | `(tactic| walk_at "ex") => `(tactic| repeat (first | walk_at "ex1" | walk_at "rd"))
abbrev s_store : Stmt := topS 28
theorem sc_store : FnScope ["script", "cell", "cells", "seed"] ["script"] (defScope s_store) := ⟨rfl, rfl, rfl, by decide +kernel, rfl, by decide +kernel, by decide +kernel⟩

def spStore (K : PySem.W.Frag) : Sp := fun vs H Q _ => ∃ (s : Addr) (ns : List Int), vs = [.ref s] ∧ SqL K H s (ns.map V.int) ∧ ns.length ≤ 63 ∧ ∀ (a c : Addr) (H' : Hp), Same H H' → H a = none → StoreAt H' a c → Q (.ref a) H'
def spPick : Sp := fun vs H Q _ => ∃ (a c : Addr) (z : Str), vs = [.ref a, .str z] ∧ StoreAt H a c ∧ z.cps.toList ≠ [] ∧ z.length ≤ 1000 ∧ Drawn H a c (fun v => ∃ k, k ∈ z.cps.toList ∧ v = .str ⟨#[k]⟩) Q
def spChance : Sp := fun vs H Q _ => ∃ (a c : Addr) (m : Int), vs = [.ref a, .int m] ∧ StoreAt H a c ∧ m ≤ 2 ^ 70 ∧ Drawn H a c (fun v => ∃ b, v = .bl b) Q
/-- a number from low to high -/
def Within (lo hi : Int) (v : V) : Prop := ∃ r : Int, v = .int r ∧ lo ≤ r ∧ r ≤ hi
def spRange : Sp := fun vs H Q _ => ∃ (a c : Addr) (lo hi : Int), vs = [.ref a, .int lo, .int hi] ∧ StoreAt H a c ∧ lo ≤ hi ∧ hi - lo < 2 ^ 70 ∧ Drawn H a c (Within lo hi) Q
theorem Drawn.mono {H H1 : Hp} {a c : Addr} {R R' : V → Prop} {Q : VK} (b : But a H H1) (k : ∀ v, R' v → R v) (q : Drawn H a c R Q) : Drawn H1 a c R' Q := fun v H' s b' r => q v H' s (b.trans b') (k v r)
theorem drawn_at {H H1 : Hp} {a c : Addr} {R : V → Prop} {Q : VK} {v : V} (q : Drawn H a c R Q) (S : StoreAt H1 a c) (b : But a H H1) (r : R v) : Q v H1 := q v H1 S b r
section
variable {P : Program} {w : World} {K : PySem.W.Frag} {mg : Str → Option Value} {base : Heap}
theorem ok_store {f : Addr} {fd : FuncData} (B : Bi mg) (D : Dn K mg "_law_store" s_store ["script"] f fd) : FnOk P w K mg base CX0 1 f fd ["script"] (spStore K) := by
  refine D.F.ok sc_store (fun vs H Q E h => ?_) (fun cdv A outer s H vs Q E hr h => ?_)
  · obtain ⟨a, ns, rfl, _⟩ := h
    rfl
  · obtain ⟨a, ns, rfl, S, hl, q⟩ := h
    refine ⟨_, (pss_cons (ps_setLc (i := 2) (own := [("cell", 1)]) (g := gName 1) (tt := tYes) (by rfl) sc_store.nd rfl rfl (sw_true rfl rfl rfl (by decide +kernel)) (pi_listK (K := K) (pv 0)) (blkOk_by (own := [("cell", 1)]) (N := ["script", "cell", "cells", "seed"]) (sc := defScope s_store) (by decide +kernel)) (fun _ _ _ _ _ => pg_name (i := 1) sc_store.nd rfl (Or.inl rfl)) (fun _ _ _ _ _ => pts_nil) (fun _ _ _ _ _ => (pe_callTy call_intI (by rfl) B.int_ (by decide +kernel) (pa_cons (pv 1) pa_nil))))
      (pss_cons (ps_set (i := 3) sc_store.nd rfl (.inl rfl) (pe_op op_add pe_int (pe_callB (call_lenXK (K := K)) (by rfl) B.len PySem.boot_len (pa_cons (pv 2) pa_nil))))
      (pss_cons (ps_for PassesOwn.never rfl (pi_listK (K := K) (pv 2)) (pg_name (i := 1) sc_store.nd rfl (.inl rfl)) (pss_one (ps_set (i := 3) sc_store.nd rfl (.inl rfl) (pe_op op_modN (pe_callTy call_intI (by rfl) B.int_ (by decide +kernel) (pa_cons (pe_op op_add (pe_op op_mul (pv 3) pe_int) (pe_op op_modN (pe_callTy call_intI (by rfl) B.int_ (by decide +kernel) (pa_cons (pv 1) pa_nil)) pe_int)) pa_nil)) pe_int))))
      (pss_one (ps_ret (pe_lst (pa_cons (pv 2) (pa_cons pe_int (pa_cons pe_int (pa_cons pe_int (pa_cons (pv 3) pa_nil))))))))))), ?_⟩
    refine r_seq ?_
    refine ⟨_, rfl, a, rfl, ⟨_, S⟩, fun c nc => ?_⟩
    refine r_lcL (K := K) (a := a) (ns.map V.int) (fun i H' => But c H H' ∧ H' c = some (.lst ((ns.take i).map V.int))) (fun _ => rfl) ⟨But.updA, upd_same⟩ (fun i H' _ h => (h.1.same nc).seq S) ?_ ?_
    · rintro i x H' hx ⟨sm, hc⟩ N k
      obtain ⟨z, hz, rfl⟩ := map_get hx
      have hi := lt_of_get hz
      have hw : wipe [some (V.ref a), none, none, none] [1] = [some (V.ref a), none, none, none] := rfl
      show tCB _ _ [some (V.ref a), some (V.int z), none, none] _ _
      walk_at "rt"
      refine k _ _ _ hc ?_ ⟨sm.trans But.updA, ?_⟩
      · rw [List.length_map, List.length_take]; exact small1000 (by omega)
      · rw [upd_same, take_map hz]
    · rintro H1 ⟨sm, hc⟩
      rw [List.length_map, List.take_length] at hc
      walk_at "rt"
      walk_at "st"
      walk_at "ex"
      refine r_seq ?_
      refine ⟨_, rfl, c, rfl, ⟨_, sq_of hc⟩, ?_⟩
      refine r_list (K := K) (a := c) (ns.map V.int) (fun i σ H' => (∃ (z : Int) (x : Option V), σ = [some (.ref a), x, some (.ref c), some (.int z)]) ∧ H' = H1) ⟨⟨_, _, rfl⟩, rfl⟩ (fun i σ H' _ h => by rw [h.2]; exact sq_of hc) ?_ ?_
      · rintro i x σ H' hx ⟨⟨z, y, rfl⟩, rfl⟩ N k
        obtain ⟨t, ht, rfl⟩ := map_get hx
        walk_at "rt"
        exact ⟨.inr ⟨by decide, by decide⟩, k _ _ ⟨⟨_, _, rfl⟩, rfl⟩⟩
      · rintro σ H' ⟨⟨z, y, rfl⟩, rfl⟩
        walk_at "rt"
        refine ⟨by decide, fun p np => ?_⟩
        have np0 : H p = none := (sm.same nc).free np
        have ncp : c ≠ p := ne_of_none hc np
        exact q p c _ ((sm.same nc).trans (Same.new np)) np0 ⟨⟨ns, 0, 0, 0, z, upd_same, by rw [upd_ne ncp]; exact hc, by decide, by decide⟩, ncp⟩
end
end K01
namespace K01
open PySem PySem.Spec PyProof.Rows L2
local macro_rules | `(tactic| walk_at "rd") => `(tactic| simp only [start1, wipe, isR, isBool, isInt, isStr, isLst, isTup, tAsg, gName, gSub, tVar, tC, tOp, tUn, tTest, tIfS, tRet, tRetN, tDrop, tB, tAnd, tOr, tNot, tAndV, tOrV, tNotV, tIf, tCB, tCons, tNil, tNext, tCall, tBM, tTup, tLst, rI0, rI, rEq, rNe, scal, forR_eq, forR2_eq, forS_eq, forL_eq, lcL_eq, lcR_eq, lcS_eq, rLenX, rLenS, rMulS, rRepL, rCatL, tPart, tNoPart, CwR.tReplC, rAllK, rInSg, rNinSg, sgn_inj, rAddS, rInSt, tChain, tM1, tM0, rSplitN, rJoinN, exists_eq, rIntI, rIntB, rIntS, rStrI, rAbs, rOrd, rMin, rMax, rIxL, rIxX, rSetL, rAppend, rIxS, rSlS, rSlL, tSl, List.map_cons, List.map_nil, List.replicate_succ, List.replicate_zero, List.length_cons, List.length_nil, Nat.reduceSub, Nat.reduceAdd, Nat.zero_add, Nat.sub_self, List.getElem?_cons_zero, List.getElem?_cons_succ, List.set_cons_zero, List.set_cons_succ, List.append_nil, List.nil_append, List.cons_append, Option.some.injEq, not_true_eq_false, reduceCtorEq, exists_eq_left', exists_eq_left, exists_eq', exists_and_left, exists_and_right, V.int.injEq, V.str.injEq, V.bl.injEq, V.ref.injEq, List.cons.injEq, and_true, true_and, and_assoc, decide_eq_true_eq, Bool.not_eq_true', decide_eq_false_iff_not, ite_true, ite_false, if_true, if_false, Bool.not_true, Bool.not_false, Bool.false_eq_true, eq_self_iff_true, reduceIte, ne_eq, Int.reduceEq, not_false_eq_true])
local macro_rules | `(tactic| walk_at "rt") => `(tactic| try walk_at "rd")
local macro_rules | `(tactic| walk_at "st") => `(tactic| (walk_at "rt"; refine r_seq ?_; walk_at "rt"))
local macro_rules | `(tactic| walk_at "hp") => `(tactic| first | assumption | exact upd_same | (rw [upd_ne (by assumption)]; walk_at "hp"))
local macro_rules | `(tactic| walk_at "ex1") => `(tactic| ((with_reducible refine Exists.intro ?w (And.intro ?hx ?_)); (case hx => first | exact sq_of (by walk_at "hp") | exact .inl (sq_of (by walk_at "hp")) | exact rfl | (show _ = some (HO.lst _); walk_at "hp"))))
local macro_rules | `(tactic| walk_at "ex") => `(tactic| repeat (first | walk_at "ex1" | walk_at "rd"))
section
variable {P : Program} {w : World} {K : PySem.W.Frag} {mg : Str → Option Value} {base : Heap}
theorem line_of {n : Nat} (h : n ≤ 16777216) : n ≤ sizeLine := by rw [PySem.sizeLine_eq]; exact h
theorem ok_pick {f f_take : Addr} {fd fd_take : FuncData} (B : Bi mg) (D : Dn K mg "_law_pick" s_pick ["store", "row"] f fd) (D_take : Dn K mg "_law_take" s_take ["store", "many"] f_take fd_take)
    (G_take : FnOk P w K mg base CX0 2 f_take fd_take ["store", "many"] spTake) : FnOk P w K mg base CX0 3 f fd ["store", "row"] spPick := by
  refine D.F.ok sc_pick (fun vs H Q E h => ?_) (fun cdv A outer s H vs Q E hr h => ?_)
  · obtain ⟨a, c, z, rfl, _⟩ := h
    rfl
  · obtain ⟨a, c, z, rfl, S, hne, hl, q⟩ := h
    refine ⟨_, (pss_cons (ps_if (pt_cmpR op_eq (pe_callB call_lenS (by rfl) B.len PySem.boot_len (pa_cons (pv 1) pa_nil)) pe_int (nomark _)) (pss_one (ps_ret pe_non)) pss_nil)
      (pss_one (ps_ret (pe_ix ix_str (pv 1) (pe_call G_take (hr.mono (by omega)) (by rfl) D_take.g D_take.F.kp D_take.b .nil pass0 (pa_cons (pv 0) (pa_cons (pe_callB call_lenS (by rfl) B.len PySem.boot_len (pa_cons (pv 1) pa_nil)) pa_nil))) (fun _ _ => rfl))))), ?_⟩
    have hz : z.cps.toList.length = z.length := rfl
    have hp : 0 < z.length := by
      rw [← hz]
      exact List.length_pos_iff.mpr hne
    walk_at "st"
    refine ⟨line_of (by omega), ite2 (fun e => absurd e (by omega)) (fun _ => ?_)⟩
    walk_at "rt"
    refine ⟨line_of (by omega), a, c, _, rfl, S, by omega, fun v H' S' b' ⟨r, e, r0, r1⟩ => ?_⟩
    subst e
    walk_at "rt"
    obtain ⟨k, hk, hk2⟩ := atI_get (xs := z.cps.toList) (i := r) r0 (by omega)
    exact ⟨line_of (by omega), k, hk, q _ _ S' b' ⟨k, List.mem_of_getElem? hk2, rfl⟩⟩
theorem ok_chance {f f_take : Addr} {fd fd_take : FuncData} (B : Bi mg) (D : Dn K mg "_law_chance" s_chance ["store", "many"] f fd) (D_take : Dn K mg "_law_take" s_take ["store", "many"] f_take fd_take)
    (G_take : FnOk P w K mg base CX0 2 f_take fd_take ["store", "many"] spTake) : FnOk P w K mg base CX0 3 f fd ["store", "many"] spChance := by
  refine D.F.ok sc_chance (fun vs H Q E h => ?_) (fun cdv A outer s H vs Q E hr h => ?_)
  · obtain ⟨a, c, z, rfl, _⟩ := h
    rfl
  · obtain ⟨a, c, m, rfl, S, hm, q⟩ := h
    refine ⟨_, (pss_one (ps_ret (pe_cmpR op_eq (pe_call G_take (hr.mono (by omega)) (by rfl) D_take.g D_take.F.kp D_take.b .nil pass0 (pa_cons (pv 0) (pa_cons (pv 1) pa_nil))) pe_int (nomark _)))), ?_⟩
    walk_at "rt"
    refine ⟨a, c, _, rfl, S, hm, fun v H' S' b' ⟨r, e, r0, r1⟩ => ?_⟩
    subst e
    walk_at "rt"
    exact q _ _ S' b' ⟨_, rfl⟩
theorem ok_number {f f_take f_chance : Addr} {fd fd_take fd_chance : FuncData} (B : Bi mg) (D : Dn K mg "_law_number" s_number ["store", "low", "high"] f fd) (D_take : Dn K mg "_law_take" s_take ["store", "many"] f_take fd_take)
    (D_chance : Dn K mg "_law_chance" s_chance ["store", "many"] f_chance fd_chance)
    (G_take : FnOk P w K mg base CX0 2 f_take fd_take ["store", "many"] spTake) (G_chance : FnOk P w K mg base CX0 3 f_chance fd_chance ["store", "many"] spChance) : FnOk P w K mg base CX0 4 f fd ["store", "low", "high"] spRange := by
  refine D.F.ok sc_number (fun vs H Q E h => ?_) (fun cdv A outer s H vs Q E hr h => ?_)
  · obtain ⟨a, c, lo, hi, rfl, _⟩ := h
    rfl
  · obtain ⟨a, c, lo, hi, rfl, S, hlh, hw, q⟩ := h
    refine ⟨_, (pss_cons (ps_set (i := 3) sc_number.nd rfl (.inl rfl) (pe_call G_take (hr.mono (by omega)) (by rfl) D_take.g D_take.F.kp D_take.b .nil pass0 (pa_cons (pv 0) (pa_cons pe_int pa_nil))))
      (pss_cons (ps_if (pt_cmpR op_eq (pv 3) pe_int (nomark _)) (pss_one (ps_ret (pv 1))) pss_nil)
      (pss_cons (ps_if (pt_cmpR op_eq (pv 3) pe_int (nomark _)) (pss_one (ps_ret (pv 2))) pss_nil)
      (pss_cons (ps_if (pt_cmpR op_eq (pv 3) pe_int (nomark _)) (pss_cons (ps_if (pt_val (pe_call G_chance (hr.mono (by omega)) (by rfl) D_chance.g D_chance.F.kp D_chance.b .nil pass0 (pa_cons (pv 0) (pa_cons pe_int pa_nil)))) (pss_one (ps_ret (pe_callB (call_minI rfl) (by rfl) B.min (by decide +kernel) (pa_cons (pe_op op_add (pv 1) pe_int) (pa_cons (pv 2) pa_nil))))) pss_nil)
      (pss_one (ps_ret (pe_callB (call_maxI rfl) (by rfl) B.max (by decide +kernel) (pa_cons (pe_op op_sub (pv 2) pe_int) (pa_cons (pv 1) pa_nil)))))) pss_nil)
      (pss_one (ps_ret (pe_op op_add (pv 1) (pe_call G_take (hr.mono (by omega)) (by rfl) D_take.g D_take.F.kp D_take.b .nil pass0 (pa_cons (pv 0) (pa_cons (pe_op op_add (pe_op op_sub (pv 2) (pv 1)) pe_int) pa_nil)))))))))), ?_⟩
    walk_at "st"
    refine ⟨a, c, _, rfl, S, by decide, fun v H1 S1 b1 ⟨r, e, r0, r1⟩ => ?_⟩
    subst e
    walk_at "st"
    refine ite2 (fun _ => q _ _ S1 b1 ⟨_, rfl, by omega, by omega⟩) (fun _ => ?_)
    walk_at "st"
    refine ite2 (fun _ => q _ _ S1 b1 ⟨_, rfl, by omega, by omega⟩) (fun _ => ?_)
    walk_at "st"
    refine ite2 (fun _ => ?_) (fun _ => ?_)
    · walk_at "st"
      refine ⟨a, c, _, rfl, S1, by decide, fun v H2 S2 b2 ⟨k, e⟩ => ?_⟩
      subst e
      walk_at "rt"
      refine ite2 (fun _ => q _ _ S2 (b1.trans b2) ⟨_, rfl, by split <;> omega, by split <;> omega⟩) (fun _ => q _ _ S2 (b1.trans b2) ⟨_, rfl, by split <;> omega, by split <;> omega⟩)
    · walk_at "rt"
      refine ⟨a, c, _, rfl, S1, by omega, fun v H2 S2 b2 ⟨k, e, k0, k1⟩ => ?_⟩
      subst e
      walk_at "rt"
      exact q _ _ S2 (b1.trans b2) ⟨_, rfl, by omega, by omega⟩
end
end K01
namespace K01
open PySem PySem.Spec PyProof.Rows L2
local macro_rules | `(tactic| walk_at "rd") => `(tactic| simp only [start1, wipe, isR, isBool, isInt, isStr, isLst, isTup, tAsg, gName, gSub, tVar, tC, tOp, tUn, tTest, tIfS, tRet, tRetN, tDrop, tB, tAnd, tOr, tNot, tAndV, tOrV, tNotV, tIf, tCB, tCons, tNil, tNext, tCall, tBM, tTup, tLst, rI0, rI, rEq, rNe, scal, forR_eq, forR2_eq, forS_eq, forL_eq, lcL_eq, lcR_eq, lcS_eq, rLenX, rLenS, rMulS, rRepL, rCatL, tPart, tNoPart, CwR.tReplC, rAllK, rInSg, rNinSg, sgn_inj, rAddS, rInSt, tChain, tM1, tM0, rSplitN, rJoinN, exists_eq, rIntI, rIntB, rIntS, rStrI, rAbs, rOrd, rMin, rMax, rIxL, rIxX, rSetL, rAppend, rIxS, rSlS, rSlL, tSl, List.map_cons, List.map_nil, List.replicate_succ, List.replicate_zero, List.length_cons, List.length_nil, Nat.reduceSub, Nat.reduceAdd, Nat.zero_add, Nat.sub_self, List.getElem?_cons_zero, List.getElem?_cons_succ, List.set_cons_zero, List.set_cons_succ, List.append_nil, List.nil_append, List.cons_append, Option.some.injEq, not_true_eq_false, reduceCtorEq, exists_eq_left', exists_eq_left, exists_eq', exists_and_left, exists_and_right, V.int.injEq, V.str.injEq, V.bl.injEq, V.ref.injEq, List.cons.injEq, and_true, true_and, and_assoc, decide_eq_true_eq, Bool.not_eq_true', decide_eq_false_iff_not, ite_true, ite_false, if_true, if_false, Bool.not_true, Bool.not_false, Bool.false_eq_true, eq_self_iff_true, reduceIte, ne_eq, Int.reduceEq, not_false_eq_true])
local macro_rules | `(tactic| walk_at "rt") => `(tactic| try walk_at "rd")
local macro_rules | `(tactic| walk_at "st") => `(tactic| (walk_at "rt"; refine r_seq ?_; walk_at "rt"))
local macro_rules | `(tactic| walk_at "hp") => `(tactic| first | assumption | exact upd_same | (rw [upd_ne (by assumption)]; walk_at "hp"))
local macro_rules | `(tactic| walk_at "ex1") => `(tactic| ((with_reducible refine Exists.intro ?w (And.intro ?hx ?_)); (case hx => first | exact sq_of (by walk_at "hp") | exact .inl (sq_of (by walk_at "hp")) | exact rfl | (show _ = some (HO.lst _); walk_at "hp"))))
local macro_rules | `(tactic| walk_at "ex") => `(tactic| repeat (first | walk_at "ex1" | walk_at "rd"))
abbrev s_same : Stmt := topS 35
theorem sc_same : FnScope ["one", "two"] ["one", "two"] (defScope s_same) := ⟨rfl, rfl, rfl, by decide +kernel, rfl, by decide +kernel, by decide +kernel⟩
abbrev s_samerows : Stmt := topS 36
theorem sc_samerows : FnScope ["one", "two", "k"] ["one", "two"] (defScope s_samerows) := ⟨rfl, rfl, rfl, by decide +kernel, rfl, by decide +kernel, by decide +kernel⟩
abbrev s_samedicts : Stmt := topS 37
theorem sc_samedicts : FnScope ["one", "two", "key"] ["one", "two"] (defScope s_samedicts) := ⟨rfl, rfl, rfl, by decide +kernel, rfl, by decide +kernel, by decide +kernel⟩

def spSame (n : Nat) : Sp := fun vs H Q _ => ∃ (x y : V) (A B : Addr → Prop) (d e : Dat), vs = [x, y] ∧ At H A d x ∧ At H B e y ∧ d.dep ≤ n ∧ Q (.bl (same d e)) H
def spRows : Nat → Sp
  | 0 => fun _ _ _ _ => False
  | n + 1 => fun vs H Q _ => ∃ (x y : V) (A B : Addr → Prop) (l m : List Dat), vs = [x, y] ∧ ((At H A (.lst l) x ∧ At H B (.lst m) y) ∨ (At H A (.tup l) x ∧ At H B (.tup m) y)) ∧ depL l ≤ n ∧ Q (.bl (sameL l m)) H
section
variable {P : Program} {w : World} {K : PySem.W.Frag} {mg : Str → Option Value} {base : Heap}
theorem ok_same {f fR : Addr} {fd fdR : FuncData} (B : Bi mg) (D : Dn K mg "_law_same" s_same ["one", "two"] f fd) (D_samerows : Dn K mg "_law_same_rows" s_samerows ["one", "two"] fR fdR) (n k : Nat)
    (G_samerows : FnOk P w K mg base CX0 (k + 1) fR fdR ["one", "two"] (spRows n)) : FnOk P w K mg base CX0 (k + 2) f fd ["one", "two"] (spSame n) := by
  refine D.F.ok sc_same (fun vs H Q E h => ?_) (fun cdv A outer s H vs Q E hr h => ?_)
  · obtain ⟨x, y, A, B, d, e, rfl, _⟩ := h
    rfl
  · obtain ⟨x, y, A1, A2, d, e, rfl, hd, he, hn, q⟩ := h
    have hr1 : Room (k + 1) _ := hr
    have hd' := hd
    have he' := he
    refine ⟨_, (pss_cons (ps_if (PW.pt (pw_or (pt_cmpR op_isN (pv 0) pe_non (nomark _)) (pw_or1 (pt_cmpR op_isN (pv 1) pe_non (nomark _))))) (pss_one (ps_ret (pe_and (pe_cmpR op_isN (pv 0) pe_non (nomark _)) (pe_one (pe_cmpR op_isN (pv 1) pe_non (nomark _)))))) pss_nil)
      (pss_cons (ps_if (PW.pt (pw_or (pt_val (pe_callB call_is_bool (by rfl) B.isinstance (by decide +kernel) (pa_cons (pv 0) (pa_cons (pe_bltn (v := .ty "bool") (by rfl) B.bool_ (by decide +kernel) rfl) pa_nil)))) (pw_or1 (pt_val (pe_callB call_is_bool (by rfl) B.isinstance (by decide +kernel) (pa_cons (pv 1) (pa_cons (pe_bltn (v := .ty "bool") (by rfl) B.bool_ (by decide +kernel) rfl) pa_nil))))))) (pss_one (ps_ret (pe_and (pe_callB call_is_bool (by rfl) B.isinstance (by decide +kernel) (pa_cons (pv 0) (pa_cons (pe_bltn (v := .ty "bool") (by rfl) B.bool_ (by decide +kernel) rfl) pa_nil))) (pe_and (pe_callB call_is_bool (by rfl) B.isinstance (by decide +kernel) (pa_cons (pv 1) (pa_cons (pe_bltn (v := .ty "bool") (by rfl) B.bool_ (by decide +kernel) rfl) pa_nil))) (pe_one (pe_cmpR op_eq (pv 0) (pv 1) (nomark _))))))) pss_nil)
      (pss_cons (ps_if (PW.pt (pw_or (pt_val (pe_callB call_is_int (by rfl) B.isinstance (by decide +kernel) (pa_cons (pv 0) (pa_cons (pe_bltn (v := .ty "int") (by rfl) B.int_ (by decide +kernel) rfl) pa_nil)))) (pw_or1 (pt_val (pe_callB call_is_int (by rfl) B.isinstance (by decide +kernel) (pa_cons (pv 1) (pa_cons (pe_bltn (v := .ty "int") (by rfl) B.int_ (by decide +kernel) rfl) pa_nil))))))) (pss_one (ps_ret (pe_and (pe_callB call_is_int (by rfl) B.isinstance (by decide +kernel) (pa_cons (pv 0) (pa_cons (pe_bltn (v := .ty "int") (by rfl) B.int_ (by decide +kernel) rfl) pa_nil))) (pe_and (pe_callB call_is_int (by rfl) B.isinstance (by decide +kernel) (pa_cons (pv 1) (pa_cons (pe_bltn (v := .ty "int") (by rfl) B.int_ (by decide +kernel) rfl) pa_nil))) (pe_one (pe_cmpR op_eq (pv 0) (pv 1) (nomark _))))))) pss_nil)
      (pss_cons (ps_if (PW.pt (pw_or (pt_val (pe_callB call_is_str (by rfl) B.isinstance (by decide +kernel) (pa_cons (pv 0) (pa_cons (pe_bltn (v := .ty "str") (by rfl) B.str_ (by decide +kernel) rfl) pa_nil)))) (pw_or1 (pt_val (pe_callB call_is_str (by rfl) B.isinstance (by decide +kernel) (pa_cons (pv 1) (pa_cons (pe_bltn (v := .ty "str") (by rfl) B.str_ (by decide +kernel) rfl) pa_nil))))))) (pss_one (ps_ret (pe_and (pe_callB call_is_str (by rfl) B.isinstance (by decide +kernel) (pa_cons (pv 0) (pa_cons (pe_bltn (v := .ty "str") (by rfl) B.str_ (by decide +kernel) rfl) pa_nil))) (pe_and (pe_callB call_is_str (by rfl) B.isinstance (by decide +kernel) (pa_cons (pv 1) (pa_cons (pe_bltn (v := .ty "str") (by rfl) B.str_ (by decide +kernel) rfl) pa_nil))) (pe_one (pe_cmpR op_eq (pv 0) (pv 1) (nomark _))))))) pss_nil)
      (pss_cons (ps_if (PW.pt (pw_or (pt_val (pe_callB call_is_dict (by rfl) B.isinstance (by decide +kernel) (pa_cons (pv 0) (pa_cons (pe_bltn (v := .ty "dict") (by rfl) B.dict_ (by decide +kernel) rfl) pa_nil)))) (pw_or1 (pt_val (pe_callB call_is_dict (by rfl) B.isinstance (by decide +kernel) (pa_cons (pv 1) (pa_cons (pe_bltn (v := .ty "dict") (by rfl) B.dict_ (by decide +kernel) rfl) pa_nil))))))) (pss_one ps_never) pss_nil)
      (pss_cons (ps_if (PW.pt (pw_or (PW.pt (pw_and (pt_val (pe_callB call_is_list (by rfl) B.isinstance (by decide +kernel) (pa_cons (pv 0) (pa_cons (pe_bltn (v := .ty "list") (by rfl) B.list_ (by decide +kernel) rfl) pa_nil)))) (pw_and1 (pt_val (pe_callB call_is_list (by rfl) B.isinstance (by decide +kernel) (pa_cons (pv 1) (pa_cons (pe_bltn (v := .ty "list") (by rfl) B.list_ (by decide +kernel) rfl) pa_nil))))))) (pw_or1 (PW.pt (pw_and (pt_val (pe_callB call_is_tuple (by rfl) B.isinstance (by decide +kernel) (pa_cons (pv 0) (pa_cons (pe_bltn (v := .ty "tuple") (by rfl) B.tuple_ (by decide +kernel) rfl) pa_nil)))) (pw_and1 (pt_val (pe_callB call_is_tuple (by rfl) B.isinstance (by decide +kernel) (pa_cons (pv 1) (pa_cons (pe_bltn (v := .ty "tuple") (by rfl) B.tuple_ (by decide +kernel) rfl) pa_nil)))))))))) (pss_one (ps_ret (pe_call G_samerows (hr.mono (by omega)) (by rfl) D_samerows.g D_samerows.F.kp D_samerows.b .nil pass0 (pa_cons (pv 0) (pa_cons (pv 1) pa_nil))))) pss_nil)
      (pss_one (ps_ret pe_bl)))))))), ?_⟩
    rcases d with _ | b | i | z | l | l <;> rcases e with _ | b' | i' | z' | l' | l'
    all_goals simp only [At] at hd he
    all_goals (first | subst hd | (obtain ⟨a, xs, rfl, hd⟩ := hd))
    all_goals (first | subst he | (obtain ⟨a', ys, rfl, he⟩ := he))
    all_goals (repeat (first | (with_reducible refine Exists.intro _ (Exists.intro _ (And.intro hd' ?_))) | (with_reducible refine Exists.intro _ (Exists.intro _ (And.intro he' ?_))) | (with_reducible refine And.intro (Exists.intro _ (Exists.intro _ hd')) ?_) | (with_reducible refine And.intro (Exists.intro _ (Exists.intro _ he')) ?_) | simp only [isR, isBool, isInt, isStr, isLst, isTup, reduceCtorEq, decide_false, decide_true, Bool.or_true, Bool.and_true, Bool.false_and, Bool.true_and] | walk_at "rd" | (with_reducible refine r_seq ?_)))
    all_goals (first | exact q | (simp only [same, reduceCtorEq] at q; exact q) | skip)
    · cases n with
      | zero => rw [Dat.dep] at hn; omega
      | succ n => exact ⟨_, _, A1, A2, l, l', rfl, .inl ⟨hd', he'⟩, by rw [Dat.dep] at hn; omega, by rw [same] at q; exact q⟩
    · cases n with
      | zero => rw [Dat.dep] at hn; omega
      | succ n => exact ⟨_, _, A1, A2, l, l', rfl, .inr ⟨hd', he'⟩, by rw [Dat.dep] at hn; omega, by rw [same] at q; exact q⟩
end
theorem sameL_len : ∀ (l m : List Dat), sameL l m = true → l.length = m.length
  | [], [], _ => rfl
  | d :: l, e :: m, h => by
    rw [sameL, Bool.and_eq_true] at h
    rw [List.length_cons, List.length_cons, sameL_len l m h.2]
  | [], _ :: _, h => by cases h
  | _ :: _, [], h => by cases h
theorem sameL_at : ∀ (l m : List Dat) (i : Nat) (d e : Dat), l[i]? = some d → m[i]? = some e → same d e = false → sameL l m = false
  | d :: l, e :: m, 0, _, _, h1, h2, h => by
    cases h1; cases h2
    rw [sameL, h]; rfl
  | d :: l, e :: m, i + 1, _, _, h1, h2, h => by
    rw [sameL, sameL_at l m i _ _ h1 h2 h, Bool.and_false]
  | [], _, _, _, _, h1, _, _ => by simp at h1
  | _ :: _, [], _, _, _, _, h2, _ => by simp at h2
theorem sameL_all : ∀ (l m : List Dat), l.length = m.length → (∀ (i : Nat) (d e : Dat), l[i]? = some d → m[i]? = some e → same d e = true) → sameL l m = true
  | [], [], _, _ => rfl
  | d :: l, e :: m, hl, h => by
    rw [sameL, h 0 d e rfl rfl, sameL_all l m (by simpa using hl) fun i d e h1 h2 => h (i + 1) d e h1 h2]
    rfl
  | [], _ :: _, h, _ => by simp at h
  | _ :: _, [], h, _ => by simp at h
end K01
namespace K01
open PySem PySem.Spec PyProof.Rows L2
local macro_rules | `(tactic| walk_at "rd") => `(tactic| simp only [start1, wipe, isR, isBool, isInt, isStr, isLst, isTup, tAsg, gName, gSub, tVar, tC, tOp, tUn, tTest, tIfS, tRet, tRetN, tDrop, tB, tAnd, tOr, tNot, tAndV, tOrV, tNotV, tIf, tCB, tCons, tNil, tNext, tCall, tBM, tTup, tLst, rI0, rI, rEq, rNe, scal, forR_eq, forR2_eq, forS_eq, forL_eq, lcL_eq, lcR_eq, lcS_eq, rLenX, rLenS, rMulS, rRepL, rCatL, tPart, tNoPart, CwR.tReplC, rAllK, rInSg, rNinSg, sgn_inj, rAddS, rInSt, tChain, tM1, tM0, rSplitN, rJoinN, exists_eq, rIntI, rIntB, rIntS, rStrI, rAbs, rOrd, rMin, rMax, rIxL, rIxX, rSetL, rAppend, rIxS, rSlS, rSlL, tSl, List.map_cons, List.map_nil, List.replicate_succ, List.replicate_zero, List.length_cons, List.length_nil, Nat.reduceSub, Nat.reduceAdd, Nat.zero_add, Nat.sub_self, List.getElem?_cons_zero, List.getElem?_cons_succ, List.set_cons_zero, List.set_cons_succ, List.append_nil, List.nil_append, List.cons_append, Option.some.injEq, not_true_eq_false, reduceCtorEq, exists_eq_left', exists_eq_left, exists_eq', exists_and_left, exists_and_right, V.int.injEq, V.str.injEq, V.bl.injEq, V.ref.injEq, List.cons.injEq, and_true, true_and, and_assoc, decide_eq_true_eq, Bool.not_eq_true', decide_eq_false_iff_not, ite_true, ite_false, if_true, if_false, Bool.not_true, Bool.not_false, Bool.false_eq_true, eq_self_iff_true, reduceIte, ne_eq, Int.reduceEq, not_false_eq_true])
local macro_rules | `(tactic| walk_at "rt") => `(tactic| try walk_at "rd")
local macro_rules | `(tactic| walk_at "st") => `(tactic| (walk_at "rt"; refine r_seq ?_; walk_at "rt"))
local macro_rules | `(tactic| walk_at "hp") => `(tactic| first | assumption | exact upd_same | (rw [upd_ne (by assumption)]; walk_at "hp"))
local macro_rules | `(tactic| walk_at "ex1") => `(tactic| ((with_reducible refine Exists.intro ?w (And.intro ?hx ?_)); (case hx => first | exact sq_of (by walk_at "hp") | exact .inl (sq_of (by walk_at "hp")) | exact rfl | (show _ = some (HO.lst _); walk_at "hp"))))
local macro_rules | `(tactic| walk_at "ex") => `(tactic| repeat (first | walk_at "ex1" | walk_at "rd"))
section
variable {P : Program} {w : World} {K : PySem.W.Frag} {mg : Str → Option Value} {base : Heap}
/-- what a list and a tuple have in common -/
def SqX (K : PySem.W.Frag) (H : Hp) (a : Addr) (xs : List V) : Prop := SqL K H a xs ∨ SqT K H a xs
theorem ok_rows0 {fR : Addr} {fdR : FuncData} (D : Dn K mg "_law_same_rows" s_samerows ["one", "two"] fR fdR) : FnOk P w K mg base CX0 1 fR fdR ["one", "two"] (spRows 0) :=
  D.F.ok sc_samerows (fun vs H Q E h => h.elim) (fun cdv A outer s H vs Q E hr h => h.elim)
theorem ok_rows {f fR : Addr} {fd fdR : FuncData} (B : Bi mg) (D_same : Dn K mg "_law_same" s_same ["one", "two"] f fd) (D : Dn K mg "_law_same_rows" s_samerows ["one", "two"] fR fdR) (n k : Nat)
    (G_same : FnOk P w K mg base CX0 (k + 1) f fd ["one", "two"] (spSame n)) : FnOk P w K mg base CX0 (k + 2) fR fdR ["one", "two"] (spRows (n + 1)) := by
  refine D.F.ok sc_samerows (fun vs H Q E h => ?_) (fun cdv A outer s H vs Q E hr h => ?_)
  · obtain ⟨x, y, A, B, l, m, rfl, _⟩ := h
    rfl
  · obtain ⟨x, y, A1, A2, l, m, rfl, hx, hn, q⟩ := h
    obtain ⟨a, xs, b, ys, rfl, rfl, ha, hb, hla, hlb, La, Lb⟩ : ∃ a xs b ys, x = .ref a ∧ y = .ref b ∧ SqX K H a xs ∧ SqX K H b ys ∧ xs.length ≤ 1000000 ∧ ys.length ≤ 1000000 ∧ AtL H A1 l xs ∧ AtL H A2 m ys := by
      rcases hx with ⟨⟨a, xs, e, _, h1, h2, h3⟩, b, ys, e', _, h1', h2', h3'⟩ | ⟨⟨a, xs, e, _, h1, h2, h3⟩, b, ys, e', _, h1', h2', h3'⟩
      · exact ⟨a, xs, b, ys, e, e', .inl (sq_of h1), .inl (sq_of h1'), h2, h2', h3, h3'⟩
      · exact ⟨a, xs, b, ys, e, e', .inr (.inl (.inl h1)), .inr (.inl (.inl h1')), h2, h2', h3, h3'⟩
    have ela := La.length
    have elb := Lb.length
    refine ⟨_, (pss_cons (ps_if (pt_cmpR op_ne (pe_callB (call_lenXK (K := K)) (by rfl) B.len PySem.boot_len (pa_cons (pv 0) pa_nil)) (pe_callB (call_lenXK (K := K)) (by rfl) B.len PySem.boot_len (pa_cons (pv 1) pa_nil)) (nomark _)) (pss_one (ps_ret pe_bl)) pss_nil)
      (pss_cons (ps_for PassesOwn.never rfl (pi_range1 (by rfl) B.range (pa_cons (pe_callB (call_lenXK (K := K)) (by rfl) B.len PySem.boot_len (pa_cons (pv 0) pa_nil)) pa_nil)) (pg_name (i := 2) sc_samerows.nd rfl (.inl rfl)) (pss_one (ps_if (pt_not (pt_val (pe_call G_same (hr.mono (by omega)) (by rfl) D_same.g D_same.F.kp D_same.b .nil pass0 (pa_cons (pe_ix (ix_sxK (K := K)) (pv 0) (pv 2) (fun _ _ => rfl)) (pa_cons (pe_ix (ix_sxK (K := K)) (pv 1) (pv 2) (fun _ _ => rfl)) pa_nil))))) (pss_one (ps_ret pe_bl)) pss_nil)))
      (pss_one (ps_ret pe_bl)))), ?_⟩
    walk_at "st"
    refine ⟨_, ha, _, hb, ite2 (fun hne => ?_) (fun heq => ?_)⟩
    · have hs : sameL l m = false := by
        cases e : sameL l m with
        | false => rfl
        | true => exact absurd (sameL_len l m e) (by omega)
      rw [hs] at q
      exact q
    walk_at "st"
    refine ⟨_, ha, by omega, by omega, ?_⟩
    have gl : ∀ i : Nat, i < l.length → ∃ d, l[i]? = some d := fun i h => ⟨_, List.getElem?_eq_getElem h⟩
    refine r_range (fun i σ H' => (∃ x : Option V, σ = [some (.ref a), some (.ref b), x]) ∧ H' = H ∧ ∀ (j : Nat) (d e : Dat), j < i → l[j]? = some d → m[j]? = some e → same d e = true) ⟨⟨_, rfl⟩, rfl, fun j _ _ h => absurd h (Nat.not_lt_zero _)⟩ ?_ ?_
    · rintro i σ H' hi ⟨⟨x, rfl⟩, rfl, hall⟩ N k
      have hi' : i < xs.length := by omega
      obtain ⟨d, hd⟩ : ∃ d, l[i]? = some d := ⟨_, List.getElem?_eq_getElem (by omega)⟩
      obtain ⟨e, he⟩ : ∃ e, m[i]? = some e := ⟨_, List.getElem?_eq_getElem (by omega)⟩
      obtain ⟨v, hv, av⟩ := AtL.get l xs i d La hd
      obtain ⟨u, hu, au⟩ := AtL.get m ys i e Lb he
      have a1 : atI xs (0 + (i : Int)) = some v := by rw [Int.zero_add]; exact atI_nat hv
      have a2 : atI ys (0 + (i : Int)) = some u := by rw [Int.zero_add]; exact atI_nat hu
      walk_at "rd"
      refine ⟨_, ha, _, a1, _, hb, _, a2, ?_⟩
      refine ⟨v, u, A1, A2, d, e, rfl, av, au, Nat.le_trans (dep_get l i d hd) hn, ?_⟩
      walk_at "rd"
      refine ite2 (fun hf => ?_) (fun ht => k _ _ ⟨⟨_, rfl⟩, rfl, fun j d' e' hj h1 h2 => ?_⟩)
      · rw [sameL_at l m i d e hd he hf] at q
        exact q
      · by_cases hji : j = i
        · subst hji
          rw [hd] at h1
          rw [he] at h2
          cases h1
          cases h2
          cases e : same d e with
          | true => rfl
          | false => exact absurd e ht
        · exact hall j d' e' (by omega) h1 h2
    · rintro σ H' ⟨⟨x, rfl⟩, rfl, hall⟩
      walk_at "rd"
      have hs : sameL l m = true := sameL_all l m (by omega) fun i d e h1 h2 => hall i d e (by have := lt_of_get h1; omega) h1 h2
      rw [hs] at q
      exact q
theorem same_all {f fR : Addr} {fd fdR : FuncData} (B : Bi mg) (D : Dn K mg "_law_same" s_same ["one", "two"] f fd) (DR : Dn K mg "_law_same_rows" s_samerows ["one", "two"] fR fdR) : ∀ n : Nat, FnOk P w K mg base CX0 (2 * n + 2) f fd ["one", "two"] (spSame n)
  | 0 => ok_same B D DR 0 0 (ok_rows0 DR)
  | n + 1 => ok_same B D DR (n + 1) (2 * n + 2) (ok_rows B D DR n (2 * n + 1) (same_all B D DR n))
end
end K01
/-! a list comprehension where p's exception is handled -/
namespace HotLc
open PySem PySem.Spec PyProof.Rows L2 L2H
/-- the block's context, p pinned in it -/
abbrev hbk (X : Cx) (p : Addr × Obj) (s : Shared) (H : Hp) (sc : Scope) (ce : Env) (fp : List Addr) : Cx := (X.blk s H sc ce fp).tr [p] (fun _ _ => False)
theorem hot_hbk {X : Cx} {p : Addr × Obj} {s : Shared} {H : Hp} {sc : Scope} {ce : Env} {fp : List Addr} (hot : Hot1 X.A p) : HotC (hbk X p s H sc ce fp) := ⟨p, hot, List.mem_singleton.mpr rfl⟩
section
variable {X : Cx} {elt tg iter : Expr} {ifs : List Expr} {scope : Scope} {own : List (Str × Nat)} {pos : Pos} {wi : TI} {g : TG} {tt : TT} {te : TE}
/-- what the block's pieces are to be -/
structure Parts (X : Cx) (p : Addr × Obj) (scope : Scope) (elt tg : Expr) (ifs : List Expr) (g : TG) (tt : TT) (te : TE) : Prop where
  tgt : ∀ s H C cl fp, PG (hbk X p s H scope (compEnvC scope cl C X.env) fp) tg g
  tst : ∀ s H C cl fp, PTs (hbk X p s H scope (compEnvC scope cl C X.env) fp) ifs tt
  elm : ∀ s H C cl fp, PE (hbk X p s H scope (compEnvC scope cl C X.env) fp) elt te
/-- the state at a turn's head -/
def Head (B : Cx) (fp : List Addr) (tn : Nat → Heap → Prop) (W : Nat → Nat → Hp → Prop) (ω : L2.St) (n : Nat) (z : Shared) : Prop :=
  ∃ k G, W k n G ∧ Inv B [] ω G z ∧ tn k z.heap ∧ ∀ b ∈ fp, G b = none
theorem pe_lcH (hc : HotC X) (hN : X.N.Nodup) (hi : PIH X tg iter wi) (ok : BlkOk X.N X.env.scope scope own) (parts : ∀ p, Hot1 X.A p → Parts X p scope elt tg ifs g tt te)
    (hs : ∀ x, foldedSetIterable iter X.env x = pure x := by intro _; rfl) : PE X (.ListComp elt [⟨tg, iter, ifs, 0⟩] scope pos) (tLc wi g tt te (own.map (·.2))) := by
  obtain ⟨p, hot, inX⟩ := hc
  have P := parts p hot
  refine ⟨fun pins s σ H Q I want => ?_⟩
  rw [eval_ListComp]
  have caught : ∀ y ∈ scope.names, y.2 = .free → ∃ c, X.env.cells.lookup y.1 = some c := by
    intro y hy hf
    exact I.ok.has y.1 (ok.free y hy hf)
  refine wpAny_comprehension_free rfl hs (closure_ok caught) ok.kind (fun y hy e => (ok.uniq y hy).trans (congrArg some e)) ?_
  refine thn (hi.run pins s σ H _ I want) fun src sA hA => thn hA fun itv sB hB => ?_
  obtain ⟨it, fp, tn, J, HB, hit, IB, T, tB, fB, more⟩ := hB
  refine wpAny_newObj_type (newEnv_comp ?_) (Nat.zero_le sizeLine)
  -- the list that is made
  have nD : HB sB.heap.objs.size = none := IB.hok.fresh (Nat.le_refl _)
  obtain ⟨W, ⟨n0, w0⟩, turn⟩ := more _ nD
  obtain ⟨HC, eHC⟩ : ∃ G : Hp, G = L2.upd HB sB.heap.objs.size (.lst []) := ⟨_, rfl⟩
  obtain ⟨sC, eC⟩ : ∃ z : Shared, z = { sB with heap := sB.heap.push { cls := .type "list", data := .seq ([] : List Value).toArray } } := ⟨_, rfl⟩
  rw [← eHC] at w0
  have hpC : sC.heap = sB.heap.push { cls := .type "list", data := .seq ([] : List Value).toArray } := by rw [eC]
  have keepC : ∀ b o, sB.heap.get? b = some o → sC.heap.get? b = some o := by
    intro b o e
    rw [hpC]
    exact Heap.get?_push_of_some _ e
  have IC : Inv X pins σ HC sC := by
    rw [eHC, eC]
    refine IB.laid (t' := sB.toks) (fun b o e => Heap.get?_push_of_some _ e) (Nat.le_refl _) ⟨Nat.zero_le _, [], 0, .nil, ?_⟩
    exact Heap.get?_push_size _ rfl
  have small : ∀ b ∈ fp, b < sB.heap.objs.size := by
    intro b hb
    obtain ⟨o, e, _⟩ := T.obj _ _ tB b hb
    exact Heap.lt_size e
  have fC : ∀ b ∈ fp, FpOk X pins HC b ∧ b < sC.heap.objs.size := by
    intro b hb
    have lt := small b hb
    refine ⟨⟨?_, (fB b hb).2⟩, ?_⟩
    · rw [eHC, upd_ne (Nat.ne_of_lt lt)]
      exact (fB b hb).1
    · rw [hpC, Heap.size_push]
      exact Nat.lt_succ_of_lt lt
  -- the block begins
  have IB0 := block_start IC ok hN fC
  have pB := IC.pin p (List.mem_append_left _ inX)
  have pt := P.tst sC HC sC.heap.objs.size (cellsFrom (sC.heap.objs.size + 1) scope.names (cloFrom X.env.cells scope.names [])) fp
  have pg := P.tgt sC HC sC.heap.objs.size (cellsFrom (sC.heap.objs.size + 1) scope.names (cloFrom X.env.cells scope.names [])) fp
  have pe := P.elm sC HC sC.heap.objs.size (cellsFrom (sC.heap.objs.size + 1) scope.names (cloFrom X.env.cells scope.names [])) fp
  rw [hit, ← eC]
  obtain ⟨ce, eE⟩ : ∃ e : Env, e = compEnvC scope (cellsFrom (sC.heap.objs.size + 1) scope.names (cloFrom X.env.cells scope.names [])) sC.heap.objs.size X.env := ⟨_, rfl⟩
  rw [← eE] at IB0 pt pg pe
  have eL : ce.locals = sC.heap.objs.size := by rw [eE]; rfl
  have IE : Inv (hbk X p sC HC scope ce fp) [] (wipe σ (own.map (·.2))) HC { sC with heap := pushCells (sC.heap.push { cls := .type "dict", data := .dict #[] }) scope.names } := by
    refine (IB0.pins_of (pins' := [p]) fun q hq => ?_).toTry _
    obtain rfl := List.mem_singleton.mp hq
    refine ⟨pushCells_keeps _ _ _ _ (Heap.get?_push_of_some _ pB.1), pB.2.1, ?_, ?_, pB.2.2.2.2⟩
    · show q.1 ≠ ce.locals
      rw [eL]
      exact Nat.ne_of_lt (Heap.lt_size pB.1)
    · intro hm
      rcases List.mem_cons.mp (IC.stkSub q.1 hm) with z | z
      · exact pB.2.2.1 z
      · exact pB.2.2.2.1 z
  have clean : ∀ {ω : L2.St} {G : Hp} {z : Shared}, Inv (hbk X p sC HC scope ce fp) [] ω G z → (∀ b ∈ fp, G b = none) → ∀ b ∈ fp, FpOk (hbk X p sC HC scope ce fp) [] G b := by
    intro ω G z IZ gn b hb
    refine ⟨gn b hb, (IZ.ok.exf b hb).1, IZ.ok.exfs b hb, .inl hb, fun x c e => (IZ.ok.exf b hb).2 x c e, fun q hq => ?_⟩
    obtain rfl : q = p := by simpa using hq
    exact (fC b hb).1.2.2.2.2.2 _ (List.mem_append_left _ inX)
  obtain ⟨sE, eS⟩ : ∃ z : Shared, z = { sC with heap := pushCells (sC.heap.push { cls := .type "dict", data := .dict #[] }) scope.names } := ⟨_, rfl⟩
  rw [← eS] at IE
  have tE : tn 0 sE.heap := by
    refine T.keep _ _ _ tB fun b _ o e => ?_
    rw [eS]
    exact pushCells_keeps _ _ _ _ (Heap.get?_push_of_some _ (keepC b o e))
  have run : codeAny (model X.prog X.w) X.A (.compLoop (.ListComp elt [⟨tg, iter, ifs, 0⟩] scope pos) 0 (.ref it) (.ref sB.heap.objs.size) ce) (compPost (model X.prog X.w) X.A X.xe none (EP X pins σ Q) (.ref sB.heap.objs.size) sC.heap.objs.size) sE := by
    refine compLoop_any (Head (hbk X p sC HC scope ce fp) fp tn W (wipe σ (own.map (·.2)))) ?_ n0 ⟨0, HC, w0, IE, tE, fun b hb => (fC b hb).1.1⟩
    rintro n z ⟨k, G, w, IZ, tz, gn⟩
    have cz := clean IZ gn
    cases turn k n G w with
    | inl e =>
      refine thnF (T.done (hbk X p sC HC scope ce fp) rfl rfl rfl (hot_hbk hot) k [] z _ G (fun _ _ => False) IZ cz tz e.1) fun r y hy => ?_
      obtain ⟨hr, IY⟩ := hy
      subst hr
      have IX : Inv X pins σ G y := IC.call' (ch := fp) IY.os IY.base IY.hok IY.bare fun b hb => by
        obtain ⟨_, f1, f2, f3, f4, f5⟩ := (fC b hb).1
        exact ⟨f3, f1, f4, f5⟩
      have nC : G sC.heap.objs.size = none := eL ▸ IY.free
      obtain ⟨m, hm, _⟩ := IY.loc
      refine ⟨m, eL ▸ hm, fun h' sb => ?_⟩
      obtain ⟨f0, f1, f2, f3, f4, f5⟩ := IC.fpOk (Nat.le_refl _) nC
      exact ⟨V.ref sB.heap.objs.size, G, IX.turned (t' := y.toks) (fun b o hb e' => (sb.2 b hb).trans e') f0 f1 f3 f4 f5, rfl, e.2⟩
    | inr e =>
      obtain ⟨go, Nx, next, step⟩ := e
      refine thnF (T.item (hbk X p sC HC scope ce fp) rfl rfl rfl (hot_hbk hot) k [] z _ G (fun _ _ => False) IZ cz tz go) fun r y hy => ?_
      obtain ⟨u, hr, hy⟩ := hy
      subst hr
      refine thnF hy fun _ y1 hy1 => ?_
      obtain ⟨x, G1, I1, rx, yl, t1, g1⟩ := hy1
      have I2 := I1.pinned (clean I1 g1) (T.obj _ _ t1)
      refine thnF (pg.run _ y1 _ G1 x u _ I2 rx (step x G1 yl)) fun _ y2 hy2 => ?_
      obtain ⟨ω, G2, I3, same, q3⟩ := hy2
      refine thnF (pt.run _ y2 ω G2 _ I3 q3) fun b y3 hy3 => ?_
      obtain ⟨G3, I4, q4⟩ := hy3
      have close : ∀ {y' : Shared} {G' : Hp}, Inv (hbk X p sC HC scope ce fp) ([] ++ pinsAt fp y1.heap) ω G' y' → Nx G' → ∃ m, m < n ∧ Head (hbk X p sC HC scope ce fp) fp tn W (wipe σ (own.map (·.2))) m y' := by
        intro y' G' I' nx
        obtain ⟨m, lt, w'⟩ := next G' nx
        have stay : ∀ b ∈ fp, ∀ o, y1.heap.get? b = some o → y'.heap.get? b = some o ∧ G' b = none := by
          intro b hb o e'
          have z' := I'.pin (b, o) (List.mem_append_right _ (List.mem_append_right _ (mem_pinsAt hb e')))
          exact ⟨z'.1, z'.2.1⟩
        have len : (wipe σ (own.map (·.2))).length = ω.length := by rw [← same, wipe_length]
        refine ⟨m, lt, k + 1, G', w', (I'.unpinned (pins := [])).weak len (fun j v e' => ?_), T.keep _ _ _ t1 fun b hb o e' => (stay b hb o e').1, fun b hb => ?_⟩
        · rw [← same] at e'
          exact (wipe_some e').1
        · obtain ⟨o, e', _⟩ := T.obj _ _ t1 b hb
          exact (stay b hb o e').2
      cases b with
      | true =>
        have q4 : te ω G3 _ := q4
        refine thnF (pe.run _ y3 ω G3 _ I4 q4) fun v y4 hy4 => ?_
        obtain ⟨yv, G4, I5, ry, acc, hD, hz, nx⟩ := hy4
        exact app_ok (X := hbk X p sC HC scope ce fp) I5 hD hz ry fun y5 I6 => close I6 nx
      | false => exact close I4 q4
  rw [eE, eS] at run
  rw [eS] at tE
  exact codeAny_compStart_list run (T.self X.A 0 _ _ _ tE run)
end
end HotLc
/-! a def that is handed the exception which is handled; isinstance of it -/
namespace HotExc
open PySem PySem.Spec PyProof.Rows L2 L2H
/-- isinstance(e, c), e an exception that stands pinned, its own dict (where it has one) tracked -/
def rIsP (K : PySem.W.Frag) (D a : Addr) (d : Option Addr) (xs : List V) (H : Hp) (Q : VK) : Prop :=
  ∃ c, xs = [.ref a, c] ∧ ∃ cv : Value, (∀ u, RelV c u → u = cv) ∧ ∃ b, PySem.W.kitOne K (.ref D) cv = some b ∧ (∀ dx, d = some dx → ∃ fs, H dx = some (.xd fs)) ∧ Q (.bl b) H
theorem call_isP {X : Cx} {a D : Addr} {oe : Obj} {d : Option Addr} (C : ExcC X.K D) (hp : (a, oe) ∈ X.pn) (hz : Zc (.ref D) d oe) (hf : ∃ vs, oe.data = .fields vs) : CallR X (.builtin "isinstance") (rIsP X.K D a d) := by
  intro pins s σ H xs us Q I r want
  obtain ⟨c, rfl, cv, only, b, hb, hd, q⟩ := want
  match us, r with
  | [u, u2], .cons ru (.cons r2 .nil) =>
    obtain rfl : u = Value.ref a := ru
    obtain rfl := only _ r2
    have pinned := (I.pin (a, oe) (List.mem_append_left _ hp)).1
    obtain ⟨vs, hv⟩ := hf
    have nc : PySem.W.notCls oe = true := by
      unfold PySem.W.notCls
      rw [hv]
    have J : ∃ od, PySem.W.InstAt s.heap a oe D od := by
      cases d with
      | none => exact ⟨none, pinned, hz.1, nc, by rw [hz.2]; trivial⟩
      | some dx =>
        obtain ⟨fs, e⟩ := hd dx rfl
        have ob : ObjOk X.prog X.w H s.heap dx (.xd fs) := I.hok dx _ e
        obtain ⟨mA, hns, _⟩ := ob
        obtain ⟨od, ho, _⟩ := lookIn_ns hns
        exact ⟨some od, pinned, hz.1, nc, by rw [hz.2]; exact ho⟩
    obtain ⟨od, J⟩ := J
    have hcl : (PySem.W.clsIn X.K D).isSome = true := by
      obtain ⟨cd, hc, _⟩ := PySem.W.any_some C.hd
      rw [hc]
      rfl
    exact PySem.W.kia_one (PySem.W.kitx_exc hcl C.hg C.hk C.hs C.ha C.hn C.ht C.hm) I.kIn J hb (fun z => nomatch z) fun tk => ⟨.bl b, H, I.kept (t' := tk) fun _ _ z => z, rfl, q⟩
/-- what a def promises that is called while p's exception is handled, and is told of it -/
structure FnE (P : Program) (w : World) (K : PySem.W.Frag) (mg : Str → Option Value) (base : Heap) (CX : CXT) (k : Nat) (f : Addr) (fd : FuncData) (ps : List Str) (sp : Addr × Obj → Sp) : Prop where
  size : ∀ p vs H Q E, sp p vs H Q E → vs.length = ps.length
  go : ∀ (p : Addr × Obj) (A : Around) (outer : List Env) (s : Shared) (H : Hp) (us : List Value) (vs : List V) (Q : VK) (E : XK), RoomH k A → Hot1 A p → PinOk outer H s p → Env0 P w K mg base A outer s H → BindsTo s fd ⟨us, []⟩ (ps.zip us) → Vals vs us → sp p vs H Q E →
    codeAny (model P w) A (.call (.ref f) ⟨us, []⟩) (CR CX outer P w H s Q E) s
theorem FnE.of {CX : CXT} {P : Program} {w : World} {K : PySem.W.Frag} {mg : Str → Option Value} {base : Heap} {k : Nat} {x qual : Str} {st : Stmt} {f : Addr} {fd : FuncData} {N ps : List Str} {sp : Addr × Obj → Sp} (F : Fun K x qual st f fd) (S : FnScope N ps (defScope st))
    (size : ∀ p vs H Q E, sp p vs H Q E → vs.length = ps.length)
    (body : ∀ (p : Addr × Obj) (cdv : Value) (A : Around) (outer : List Env) (s : Shared) (H : Hp) (vs : List V) (Q : VK) (E : XK), Hot1 A p → RoomH k (A.deeper (envOfC qual (defScope st) s.heap.objs.size f cdv)) → sp p vs H Q E →
      ∃ t, PSs (cxH CX P w K mg base N qual (defScope st) f cdv A outer s H E p) (defBody st) t ∧ t { nx := fun _ H' => Q .non H', rt := Q } (L2.start N vs) H) : FnE P w K mg base CX (k + 1) f fd ps sp := by
  obtain ⟨oc, od, kV, doc, pm, an, cdv, ct, osl, rfl, lk, hcd⟩ := F.ex
  refine ⟨size, ?_⟩
  intro p A outer s H us vs Q E room hot pin e0 hb r want
  have n := size _ _ _ _ _ want
  have inK : K.In s.heap := e0.mod.kin.keeps fun b o z => (e0.bs b o z).1
  have noLim := e0.mod.nolimit.keeps fun b o z => (e0.bs b o z).1
  have kinds : ∀ y ∈ ps.zip us, (defScope st).names.lookup y.1 = some .local ∨ ((defScope st).names.lookup y.1 = some .cell ∧ ((cellsFrom (s.heap.objs.size + 1) (defScope st).names []).lookup y.1).isSome = true) := by
    rintro ⟨m, v⟩ hy
    cases S.par m (List.of_mem_zip hy).1 with
    | inl q => exact .inl q
    | inr q => exact .inr ⟨q, PySem.W.cellsFrom_some _ _ _ (.inl q)⟩
  refine codeAny_call_function room.depth (inK _ _ lk) rfl S.co S.gen rfl (PySem.W.codeRec_of inK hcd) (hb _ _ _ _ ?_)
  refine wpAny_newFunctionEnv_cells S.kind kinds fun env he s1 y => ?_
  subst he
  refine ⟨noLim.keeps y.toInCall.keep, codeAny_func ?_⟩
  obtain ⟨t, runs, reads⟩ := body p cdv A outer s H vs Q E hot (room.deeper _) want
  have start := inv_startH (CX := CX) (E := E) S pin e0 n r y
  refine wpAny_mono (runs.run [] s1 (L2.start N vs) H _ start reads) (fun fl s' hs => ?_) fun _ _ z => z
  match fl, hs with
  | .ret u, ⟨v, σ', H', J, rv, q⟩ => exact ⟨v, H', J.os, J.bare, J.base, J.hok, rv, q⟩
  | .next, ⟨σ', H', J, q⟩ => exact ⟨.non, H', J.os, J.bare, J.base, J.hok, rfl, q⟩
  | .brk, ⟨_, _, _, q⟩ => exact q.elim
  | .cont, ⟨_, _, _, q⟩ => exact q.elim
section
variable {X : Cx} {CX : CXT} {k : Nat} {f : Addr} {fd : FuncData} {ps : List Str} {sp : Addr × Obj → Sp} {E : L2.St → XK} {x : Str} {q pos : Pos} {e : Expr} {es : List Expr} {t : TA}
/-- the call of such a def, p pinned -/
theorem pe_callE {p : Addr × Obj} (F : FnE X.prog X.w X.K X.mg X.base CX k f fd ps sp) (room : RoomH k X.A) (hot : Hot1 X.A p) (inX : p ∈ X.pn) (hg : Gl X x) (hm : X.mg x = some (.ref f)) (hk : PySem.W.keepIn X.K (.ref f) = true) (hb : Binds X.K fd ps []) (hx : ∀ σ, PassesAt CX X σ (E σ))
    (ha : PA X (e :: es) t) (hdb : (x == ("__debug__" : Str)) = false := by decide) (he : starEach (e :: es) X.env = (false, eval e X.env) :: starEach es X.env := by rfl) (hpl : (backTo pos (starEach es X.env)).any (·.1) = false := by rfl) :
    PE X (.Call (.Name x q) (e :: es) [] pos) (tCallS (sp p) E t) := by
  refine ⟨fun pins s σ H Q I want => ?_⟩
  refine wpAny_Call_Name_kw (ld_glob I hg hm ?_ hdb)
  refine PySem.W.callWith_K (h₀ := X.base) I.ok.mod.kin hk (thn (ha.run pos pins s σ H _ I want) fun us s1 ⟨vs, H1, I1, r, want1⟩ => ⟨I1.kIn, ?_⟩) he hpl
  have n : us.length = ps.length := by
    rw [← r.length]
    exact F.size _ _ _ _ _ want1
  have b := hb s1 us I1.kIn (by rw [List.append_nil]; exact n)
  rw [List.append_nil] at b
  have P1 := I1.pin p (List.mem_append_left _ inX)
  have pin : PinOk X.stack H1 s1 p := by
    refine ⟨P1.1, P1.2.1, fun hm => ?_, P1.2.2.2.2⟩
    cases List.mem_cons.mp (I1.stkSub p.1 hm) with
    | inl z => exact P1.2.2.1 z
    | inr z => exact P1.2.2.2.1 z
  refine wpAny_call (codeAny_mono (F.go p X.A X.stack s1 H1 us vs Q (E σ) room hot pin I1.env0 b r want1) fun r s' out => ?_)
  match r, out with
  | .error e, out => exact hx σ pins H1 s1 e s' I1 out
  | .ok (.ret u), out => exact I1.after out
  | .ok .next, out => exact out.elim
  | .ok .brk, out => exact out.elim
  | .ok .cont, out => exact out.elim
end
/-- C(e, ..) with an own __init__, the context of what is made None -/
theorem pmkN {X : Cx} {CX : CXT} {x : Str} {C fI : Addr} {k : Nat} {fd : FuncData} {ps : List Str} {sp : Sp} {e : Expr} {es : List Expr} {ta : TA} {p pos : Pos} (T : OexC X.K C) (hi : PySem.W.findIn X.K (.ref C) "__init__" = some (some (.ref fI))) (ti : PySem.W.typeIn X.K (.ref fI) = some (.type "function"))
    (Fi : FnOk X.prog X.w X.K X.mg X.base CX k fI fd ps sp) (room : Room (k + 1) X.A) (hb : Binds X.K fd ps []) (hx : Passes CX X (fun _ _ _ => False)) (hg : Gl X x) (hm : X.mg x = some (.ref C)) (ha : PA X (e :: es) ta)
    (hdb : (x == ("__debug__" : Str)) = false := by decide) (he : starEach (e :: es) X.env = (false, eval e X.env) :: starEach es X.env := by rfl) (hpl : (backTo pos (starEach es X.env)).any (·.1) = false := by rfl) :
    L2N.PMk X (.Call (.Name x p) (e :: es) [] pos) (tMkO C sp [] ta) := by
  intro pins s σ H Q I want
  obtain ⟨nm, ql, N, bs, bm, sn, sub, ab, col, dd, k0, k1, k2, k3, k5, atC, chain⟩ := T.cls
  refine wpAny_Call_Name_kw (ld_glob I hg hm ?_ hdb)
  refine PySem.W.callWith_K (h₀ := X.base) I.ok.mod.kin T.kC (thn (ha.run pos pins s σ H _ I want) fun us s1 got => ?_) he hpl
  obtain ⟨vs, H1, I1, r1, few, q1⟩ := got
  refine ⟨I1.kIn, ?_⟩
  obtain ⟨hp, g, dr, tk, os⟩ := s1
  have up : hp.objs.size ≤ hp.objs.size + 1 := Nat.le_add_right _ _
  have want1 := q1 (hp.objs.size + 1) (I1.hok.fresh up)
  rw [List.append_nil] at want1
  obtain ⟨hp', eh⟩ : ∃ z, z = (hp.push (PySem.W.kdv_tup us)).push (PySem.HandSPX.excO C hp.objs.size) := ⟨_, rfl⟩
  have keep : ∀ b o, hp.get? b = some o → hp'.get? b = some o := by
    intro b o z
    rw [eh]
    exact (Heap.get?_push_of_some _ (Heap.get?_push_of_some _ z))
  have there : hp'.get? (hp.objs.size + 1) = some (PySem.HandSPX.excO C hp.objs.size) := by
    rw [eh]
    heap_get
  have I2 : Inv X pins σ (L2.upd H1 (hp.objs.size + 1) (exo (hp.objs.size + 1) C none)) ⟨hp', g, dr, tk, os⟩ := I1.laid (t' := tk) keep up (exo_ok there)
  have r2 : Vals (V.ref (hp.objs.size + 1) :: vs) (Value.ref (hp.objs.size + 1) :: us) := .cons rfl r1
  have n : (Value.ref (hp.objs.size + 1) :: us).length = ps.length := by
    rw [← r2.length]
    exact Fi.len _ _ _ _ want1
  have b := hb ⟨hp', g, dr, tk, os⟩ (Value.ref (hp.objs.size + 1) :: us) I2.kIn (by rw [List.append_nil]; exact n)
  rw [List.append_nil] at b
  have short : us.length ≤ sizeLine := by
    rw [← r1.length, sizeLine_eq]
    omega
  refine wpAny_call (PySem.HandSPX.call_own F.excBase_ValueError (fun Y => PySem.HandSPX.refsVE_contains Y bm chain) (I1.kIn _ _ atC) (PySem.W.looks_findIn I1.kIn hi) (fun self => PySem.W.bind_fn I1.kIn self ti) short ?_)
  rw [List.nil_append, ← eh]
  refine codeAny_mono (Fi.run _ X.stack _ _ ⟨Value.ref (hp.objs.size + 1) :: us, []⟩ _ _ _ (fun _ _ _ => False) (room.make C us []) (I2.env0.make C us []) b r2 want1) fun r s' out => ?_
  match r, out with
  | .error er, out => exact hx pins σ _ _ er s' I2 out
  | .ok (.ret u), out =>
    obtain ⟨v, H2, os2, bare2, un2, hok2, rv, ev, d, fs, ea, ed, hd1, q2⟩ := out
    subst ev
    obtain ⟨h2, g2, d2, t2, os'⟩ := s'
    refine ⟨rv, ?_⟩
    obtain ⟨t0, G, J, kG, ge, hoe, na⟩ := mk_end0 (d2 := d2) (t2 := t2) I1 up keep un2 hok2 os2 bare2 ea ed hd1
    exact ⟨_, _, _, ⟨G, g2, d2, t2, os'⟩, _, .ref C, some d, rfl, J, kG, ge, hoe, ⟨rfl, rfl, fun vs z => by cases z; rfl⟩, rfl, rfl, na, rfl, bare2, raises_own T.exC T.tyC, q2⟩
  | .ok .next, out => exact out.elim
  | .ok .brk, out => exact out.elim
  | .ok .cont, out => exact out.elim
end HotExc
/-! d.get(k), d a dict of the module that stands as it was written -/
namespace HotExc
open PySem PySem.Spec PyProof.Rows L2
/-- what such a dict says of a key -/
def Says (K : PySem.W.Frag) (a : Addr) (z : Str) (v : V) : Prop := ∃ r, PySem.W.nsIn K a z = some r ∧ ((∃ u, r = some u ∧ RelV v u) ∨ (r = none ∧ v = .non))
def Writ (K : PySem.W.Frag) (w : World) (a : Addr) : Prop := ∃ es n, K.lookup a = some ⟨.type "dict", none, .dict es n, #[]⟩ ∧ PySem.W.KeysLit w.params es.toList ∧ (a == sysModules) = false
def tKGet (K : PySem.W.Frag) (w : World) (td ty : TE) : TE := fun σ H Q => td σ H fun x H1 => ∃ a, x = .ref a ∧ Writ K w a ∧ ty σ H1 fun y H2 => ∃ z, y = .str z ∧ ∃ v, Says K a z v ∧ Q v H2
section
variable {X : Cx} {o e : Expr} {apos cpos : Pos} {td ty : TE}
theorem pe_kget (ho : PE X o td) (he : PE X e ty) (m : M1 X o "get" apos e cpos) : PE X (.Call (.Attribute o "get" apos) [e] [] cpos) (tKGet X.K X.w td ty) := by
  refine ⟨fun pins s σ H Q I want => ?_⟩
  refine wpAny_Call_method m.base m.few m.line PySem.F.plainAttrs_dict PySem.F.slot_dict_get PySem.F.type_dict_get (thn (ho.run pins s σ H _ I want) fun u s1 got => ?_)
  obtain ⟨x, H1, I1, rx, a, rfl, ⟨es, n, at_, keys, low⟩, q1⟩ := got
  obtain rfl : u = Value.ref a := rx
  have is1 := PySem.W.mapOf_K (prog := X.prog) (w := X.w) I1.kIn at_ keys
  refine ⟨is1.typeIs, fun b eb => ?_, ?_⟩
  · cases eb
    exact ⟨_, I1.kIn _ _ at_, rfl⟩
  rw [m.trees]
  refine Calls.callWith_builtin rfl (Calls.evalArgs_plain (Calls.spliced_cons (thn (he.run pins s1 σ H1 _ I1 q1) fun iv s2 got => Calls.spliced_nil ?_)))
  obtain ⟨y, H2, I2, ry, z, rfl, v, ⟨r, er, hv⟩, q2⟩ := got
  obtain ⟨t, rfl⟩ := (show ∃ t, iv = Value.str z t from ry)
  have is2 := PySem.W.mapOf_K (prog := X.prog) (w := X.w) I2.kIn at_ keys
  have ef : findBy Value.isStrOf es z = r := PySem.W.find_K at_ er
  refine call_meetsIn PySem.F.slot_dict_get is2.typeIs PySem.F.entry_dict_get (PySem.F.args_dict_get_2 _ _) (meets_dict_get (strKind X.prog X.w) a (strKind_is X.prog X.w z t) low) ⟨_, is2, ⟨v, H2, I2.tok _, ?_, q2⟩⟩
  show RelV v ((findBy Value.isStrOf es z).getD .none)
  rw [ef]
  rcases hv with ⟨u, rfl, ru⟩ | ⟨rfl, rfl⟩
  · exact ru
  · rfl
end
end HotExc
/-! f(e, .., k = v, ..) in a try's body: what may come out depends on the slots -/
namespace HotExc
open PySem PySem.Spec PyProof.Rows L2
def tCallKS (sp : Sp) (gV : List V → List V → List V) (E : L2.St → XK) (t tk : TA) : TE := fun σ H Q => t σ H fun vs H1 => tk σ H1 fun zs H2 => sp (gV vs zs) H2 Q (E σ)
theorem pe_callKS {X : Cx} {CX : CXT} {k : Nat} {f : Addr} {fd : FuncData} {ps ks : List Str} {sp : Sp} {E : L2.St → XK} {x : Str} {p pos : Pos} {e : Expr} {es : List Expr} {kws : List Keyword} {t tk : TA} {g : List Value → List Value → List Value} {gV : List V → List V → List V}
    (F : FnOk X.prog X.w X.K X.mg X.base CX k f fd ps sp) (room : Room k X.A) (hg : Gl X x) (hm : X.mg x = some (.ref f)) (hk : PySem.W.keepIn X.K (.ref f) = true) (hb : KBinds X.K fd ps ks g gV) (hx : ∀ σ, PassesAt CX X σ (E σ))
    (ha : PA X (e :: es) t) (hkw : PK X kws tk) (hall : (backToKw pos (keywordEach kws X.env)).all (·.1.isSome) = true := by rfl) (hks : (backToKw pos (keywordEach kws X.env)).filterMap (·.1) = ks := by rfl)
    (hdb : (x == ("__debug__" : Str)) = false := by decide) (he : starEach (e :: es) X.env = (false, eval e X.env) :: starEach es X.env := by rfl)
    (hpl : ((backTo pos (starEach (e :: es) X.env)).any (·.1) || (backToKw pos (keywordEach kws X.env)).any (·.1.isNone)) = false := by rfl) : PE X (.Call (.Name x p) (e :: es) kws pos) (tCallKS sp gV E t tk) := by
  refine ⟨fun pins s σ H Q I want => ?_⟩
  refine wpAny_Call_Name_kw (ld_glob I hg hm ?_ hdb)
  refine PySem.W.callWith_KW (h₀ := X.base) I.ok.mod.kin hk hall (thn (ha.run pos pins s σ H _ I want) fun us s1 got => ?_) hpl he
  obtain ⟨vs, H1, I1, r1, want1⟩ := got
  refine thn (hkw.run pos pins s1 σ H1 _ I1 want1) fun ws s2 got => ?_
  obtain ⟨zs, H2, I2, rz, want2⟩ := got
  refine ⟨I2.kIn, ?_⟩
  rw [hks]
  have r2 := hb.rel r1 rz
  have n : (g us ws).length = ps.length := by
    rw [← r2.length]
    exact F.len _ _ _ _ want2
  refine wpAny_call (codeAny_mono (F.run X.A X.stack s2 H2 ⟨us, ks.zip ws⟩ (g us ws) (gV vs zs) Q (E σ) room I2.env0 (hb.to s2 us ws I2.kIn n) r2 want2) fun r s' out => ?_)
  match r, out with
  | .error e, out => exact hx σ pins H2 s2 e s' I2 out
  | .ok (.ret u), out => exact I2.after out
  | .ok .next, out => exact out.elim
  | .ok .brk, out => exact out.elim
  | .ok .cont, out => exact out.elim
end HotExc
namespace K01
open PySem PySem.Spec PyProof.Rows L2
/-! ### lists, copied and turned -/
def rListOf (K : PySem.W.Frag) (xs : List V) (H : Hp) (Q : VK) : Prop := ∃ p, xs = [V.ref p] ∧ ∃ ys, (SqL K H p ys ∨ SqT K H p ys) ∧ ∀ l, H l = none → Q (.ref l) (L2.upd H l (.lst ys))
theorem call_listK {X : Cx} {K : PySem.W.Frag} (h : X.K = K := by rfl) : CallR X (.type "list") (rListOf K) := callR_mono (h ▸ call_list_of) fun _ _ _ ⟨p, e, ys, h1, q⟩ => ⟨p, ys, e, h1, q⟩
theorem pe_revLK {X : Cx} {K : PySem.W.Frag} {e : Expr} {te : TE} {k : Nat} {p1 p2 p3 pos : Pos} (he : PE X e te) (h : X.K = K := by rfl) : PE X (.Subscript e (.Slice none none (some (.UnaryOp .USub (.Constant (.int 1) k p1) p2)) p3) pos) (tRevL K te) := h ▸ pe_revL he
theorem cut_to {xs : List V} {i : Nat} (h : i ≤ xs.length) : cutV xs none (some (i : Int)) = xs.take i := by
  unfold cutV
  rw [HT.sIx_none, HT.sIx_nat, List.drop_zero, Nat.sub_zero, Nat.min_eq_left h]
theorem cut_from {xs : List V} {i : Nat} (h : i ≤ xs.length) : cutV xs (some (i : Int)) none = xs.drop i := by
  unfold cutV
  rw [HT.sIx_none, HT.sIx_nat, Nat.min_eq_left h]
  exact List.take_of_length_le (by rw [List.length_drop]; omega)
theorem perm_pick {xs : List V} {i : Nat} {v : V} (h : xs[i]? = some v) : (v :: (xs.take i ++ xs.drop (i + 1))).Perm xs := by
  have hi := lt_of_get h
  have e : xs = xs.take i ++ v :: xs.drop (i + 1) := by
    have e2 := (List.getElem?_eq_some_iff.mp h).2
    rw [← e2, ← List.drop_eq_getElem_cons hi, List.take_append_drop]
  conv => rhs; rw [e]
  exact (List.perm_middle).symm
end K01
/-! own words for the draws, dicts, comprehensions with a test, exceptions -/
namespace HotExc
open PySem PySem.Spec PyProof.Rows L2 L2H
theorem pe_imp {X : Cx} {e : Expr} {t t' : TE} (h : PE X e t) (k : ∀ σ H Q, t' σ H Q → t σ H Q) : PE X e t' := ⟨fun pins s σ H Q I q => h.run pins s σ H Q I (k _ _ _ q)⟩
theorem ps_imp {X : Cx} {e : Stmt} {t t' : TS} (h : PS X e t) (k : ∀ D σ H, t' D σ H → t D σ H) : PS X e t' := ⟨fun pins s σ H D I q => h.run pins s σ H D I (k _ _ _ q)⟩
theorem takesN0 {X : Cx} : L2N.Takes X (fun _ _ _ _ => False) := fun _ _ x => by
  obtain ⟨_, _, _, _, _, _, _, _, _, _, _, _, _, _, _, _, w⟩ := x
  exact w.elim
/-- a call of a def that may raise, where it does not -/
theorem passS0 {X : Cx} : ∀ σ, PassesAt (L2N.CX X.prog X.w) X σ (WE (fun _ _ _ _ => False) σ) := fun σ => L2N.passAt takesN0 σ
def tCallSD (sp : Sp) (dvs : List V) (E : L2.St → XK) (t : TA) : TE := fun σ H Q => t σ H fun vs H1 => sp (vs ++ dvs) H1 Q (E σ)
theorem pe_callSD {X : Cx} {CX : CXT} {k : Nat} {f : Addr} {fd : FuncData} {ps : List Str} {sp : Sp} {dvs : List V} {ds : List Value} {E : L2.St → XK} {x : Str} {p pos : Pos} {e : Expr} {es : List Expr} {t : TA}
    (F : FnOk X.prog X.w X.K X.mg X.base CX k f fd ps sp) (hr : Room k X.A) (hg : Gl X x) (hm : X.mg x = some (.ref f)) (hk : PySem.W.keepIn X.K (.ref f) = true) (hb : Binds X.K fd ps ds) (hd : Vals dvs ds) (hx : ∀ σ, PassesAt CX X σ (E σ))
    (ha : PA X (e :: es) t) (hdb : (x == ("__debug__" : Str)) = false := by decide) (he : starEach (e :: es) X.env = (false, eval e X.env) :: starEach es X.env := by rfl) (hpl : (backTo pos (starEach es X.env)).any (·.1) = false := by rfl) :
    PE X (.Call (.Name x p) (e :: es) [] pos) (tCallSD sp dvs E t) := by
  refine ⟨fun pins s σ H Q I h => ?_⟩
  refine wpAny_Call_Name_kw (ld_glob I hg hm ?_ hdb)
  refine PySem.W.callWith_K (h₀ := X.base) I.ok.mod.kin hk (thn (ha.run pos pins s σ H _ I h) fun us s1 got => ?_) he hpl
  obtain ⟨vs, H1, I1, r, q⟩ := got
  refine ⟨I1.kIn, ?_⟩
  have r2 : Vals (vs ++ dvs) (us ++ ds) := r.append hd
  have hl : (us ++ ds).length = ps.length := by rw [← r2.length]; exact F.len _ _ _ _ q
  refine wpAny_call (codeAny_mono (F.run X.A X.stack s1 H1 ⟨us, []⟩ (us ++ ds) (vs ++ dvs) Q (E σ) hr I1.env0 (hb s1 us I1.kIn hl) r2 q) fun r s' hq => ?_)
  match r, hq with
  | .error e, hq => exact hx σ pins H1 s1 e s' I1 hq
  | .ok (.ret u), hq => exact I1.after hq
  | .ok .next, hq => exact hq.elim
  | .ok .brk, hq => exact hq.elim
  | .ok .cont, hq => exact hq.elim
/-! dicts with text keys that stand in H -/
def tG (td ty : TE) : TE := fun σ H Q => td σ H fun x H1 => ty σ H1 fun y H2 => ∃ a, x = .ref a ∧ ∃ z, y = .str z ∧ ∃ kvs, H2 a = some (.dK kvs) ∧ ∃ v, valV kvs (Sum.inr z) = some v ∧ Q v H2
def tG2 (td ty tx : TE) : TE := fun σ H Q => td σ H fun x H1 => ∃ a, x = .ref a ∧ ∃ kvs, H1 a = some (.dK kvs) ∧ ty σ H1 fun y H2 => tx σ H2 fun u H3 => ∃ z, y = .str z ∧ H3 a = some (.dK kvs) ∧ Q ((valV kvs (Sum.inr z)).getD u) H3
def sP (td ty tv : TE) : TS := fun D σ H => tv σ H fun v H1 => td σ H1 fun x H2 => ty σ H2 fun y H3 => ∃ a, x = .ref a ∧ ∃ z, y = .str z ∧ ∃ kvs, H3 a = some (.dK kvs) ∧ kvs.length < sizeLine ∧ D.nx σ (L2.upd H3 a (.dK (putK kvs (Sum.inr z) v)))
section
variable {X : Cx} {o i e f value : Expr} {pos pos' apos cpos : Pos} {td ty tx tv : TE}
theorem pe_gS (hu : X.A.units + 1 < cLine) (ho : PE X o td) (hi : PE X i ty) (hs : NoSl i) : PE X (.Subscript o i pos) (tG td ty) := by
  refine ⟨fun pins s σ H Q I h => ?_⟩
  refine subD_of PySem.F.slot_dict_getitem.lookup hs (thn (ho.run pins s σ H _ I h) fun u s1 ⟨x, H1, I1, rx, q1⟩ => thn (hi.run pins s1 σ H1 _ I1 q1) fun iv s2 ⟨y, H2, I2, ry, a, ex, z, ez, kvs, hk, v, hv, q2⟩ => ?_)
  subst ex
  obtain rfl : u = Value.ref a := rx
  have g : DGet H2 a y (some v) := by
    subst ez
    rw [← hv]
    exact DGet.k (k := Sum.inr z) hk
  exact ⟨dict_typeIs I2 g, d_getItem hu I2 g ry fun w' s3 I3 rw' => ⟨v, H2, I3, rw', q2⟩⟩
theorem ps_pS (hu : X.A.units + 1 < cLine) (ho : PE X o td) (hi : PE X i ty) (hv : PE X value tv) (hs : swapsWith value (some (.Subscript o i pos')) pos.line X.env = pure false) :
    PS X (.Assign [.Subscript o i pos'] value pos) (sP td ty tv) := by
  refine ⟨fun pins s σ H D I h => ?_⟩
  refine wpAny_Assign_Subscript (thn (hv.run pins s σ H _ I h) fun r s1 ⟨v, H1, I1, rv, q1⟩ => thn (ho.run pins s1 σ H1 _ I1 q1) fun u s2 ⟨x, H2, I2, rx, q2⟩ => thn (hi.run pins s2 σ H2 _ I2 q2) fun iv s3 ⟨y, H3, I3, ry, a, ex, z, ez, kvs, hk, hl, q3⟩ => ?_) hs
  subst ex
  obtain rfl : u = Value.ref a := rx
  have g : DPut H3 a y v (L2.upd H3 a (.dK (putK kvs (Sum.inr z) v))) := by
    subst ez
    exact DPut.k (k := Sum.inr z) hk hl
  exact d_setItem hu I3 g ry rv fun s4 I4 => ⟨σ, _, I4, q3⟩
theorem pe_gS2 (hu : X.A.units + 1 < cLine) (ho : PE X o td) (he : PE X e ty) (hf : PE X f tx) (m : M2 X o "get" apos e f cpos) : PE X (.Call (.Attribute o "get" apos) [e, f] [] cpos) (tG2 td ty tx) := by
  refine ⟨fun pins s σ H Q I h => ?_⟩
  refine wpAny_Call_method m.base m.few m.line PySem.F.plainAttrs_dict PySem.F.slot_dict_get PySem.F.type_dict_get (thn (ho.run pins s σ H _ I h) fun u s1 ⟨x, H1, I1, rx, a, ex, kvs, hk, q1⟩ => ?_)
  subst ex
  obtain rfl : u = Value.ref a := rx
  obtain ⟨d1, d2, _⟩ := isD_at I1 (.inl ⟨kvs, .inl hk⟩)
  refine ⟨d1, d2, ?_⟩
  rw [m.trees]
  refine Calls.callWith_builtin rfl (Calls.evalArgs_plain (Calls.spliced_cons (thn (he.run pins s1 σ H1 _ I1 q1) fun iv s2 ⟨y, H2, I2, ry, q2⟩ => Calls.spliced_cons (thn (hf.run pins s2 σ H2 _ I2 q2) fun dv s3 ⟨z, H3, I3, rz, zz, ez, hk3, q3⟩ => Calls.spliced_nil ?_))))
  have g : DGet H3 a y (valV kvs (Sum.inr zz)) := by
    subst ez
    exact DGet.k (k := Sum.inr zz) hk3
  exact d_get2 hu I3 g ry rz fun w' s4 I4 rw' => ⟨_, H3, I4, rw', q3⟩
end
def rTupOf (K : PySem.W.Frag) (xs : List V) (H : Hp) (Q : VK) : Prop := ∃ p, xs = [V.ref p] ∧ ∃ ys, SqL K H p ys ∧ ∀ l, H l = none → Q (.ref l) (L2.upd H l (.tup ys))
theorem call_tupK {X : Cx} {K : PySem.W.Frag} (h : X.K = K := by rfl) : CallR X (.type "tuple") (rTupOf K) := h ▸ fun pins s σ H xs us Q I r q => call_tuple_of pins s σ H xs us Q I r (by
  obtain ⟨p, e, ys, hs, q⟩ := q
  exact ⟨p, ys, e, .inl ⟨hs, q⟩⟩)
/-- isinstance(e, c) of the handled exception, whose class is told by the reading -/
def rIsZ (K : PySem.W.Frag) (cls : Value) (D a : Addr) (d : Option Addr) (xs : List V) (H : Hp) (Q : VK) : Prop := cls = .ref D ∧ rIsP K D a d xs H Q
theorem call_isZ {X : Cx} {K : PySem.W.Frag} {a D : Addr} {oe : Obj} {cls : Value} {d : Option Addr} (C : ExcC K D) (hp : (a, oe) ∈ X.pn) (hz : L2N.Zn cls d oe) (hf : ∃ vs, oe.data = .fields vs) (hk : X.K = K := by rfl) : CallR X (.builtin "isinstance") (rIsZ K cls D a d) := by
  subst hk
  intro pins s σ H xs us Q I r want
  obtain ⟨e, want⟩ := want
  exact call_isP C hp (by rw [← e]; exact hz.zc) hf pins s σ H xs us Q I r want
theorem r_isZ {K : PySem.W.Frag} {D a c : Addr} {d : Option Addr} {b : Bool} {H : Hp} {Q : VK} (hk : PySem.W.kitOne K (.ref D) (.ref c) = some b) (hd : ∀ dx, d = some dx → ∃ fs, H dx = some (.xd fs)) (q : Q (.bl b) H) : rIsZ K (.ref D) D a d [.ref a, .ref c] H Q :=
  ⟨rfl, _, rfl, .ref c, fun u r => r, b, hk, hd, q⟩
theorem r_isZV {K : PySem.W.Frag} {D a : Addr} {d : Option Addr} {b : Bool} {H : Hp} {Q : VK} (hk : PySem.W.kitOne K (.ref D) (.type "ValueError") = some b) (hd : ∀ dx, d = some dx → ∃ fs, H dx = some (.xd fs)) (q : Q (.bl b) H) : rIsZ K (.ref D) D a d [.ref a, .ty "ValueError"] H Q :=
  ⟨rfl, _, rfl, .type "ValueError", fun u r => r, b, hk, hd, q⟩
end HotExc
namespace K01
open PySem PySem.Spec PyProof.Rows L2 TL HotExc
theorem StoreAt.put {H : Hp} {a c p : Addr} {o : HO} (S : StoreAt H a c) (n1 : p ≠ a) (n2 : p ≠ c) : StoreAt (L2.upd H p o) a c := by
  obtain ⟨⟨cells, pos, val, turn, seed, h1, h2, h3, h4⟩, n⟩ := S
  exact ⟨⟨cells, pos, val, turn, seed, by rw [upd_ne n1.symm]; exact h1, by rw [upd_ne n2.symm]; exact h2, h3, h4⟩, n⟩
theorem StoreAt.new {H : Hp} {a c p : Addr} {o : HO} (S : StoreAt H a c) (n : H p = none) : StoreAt (L2.upd H p o) a c := by
  obtain ⟨cells, pos, val, turn, seed, h1, h2, _⟩ := S.ex
  exact S.put (ne_of_none h1 n).symm (ne_of_none h2 n).symm
theorem StoreAt.ne1 {H : Hp} {a c p : Addr} (S : StoreAt H a c) (n : H p = none) : p ≠ a := by
  obtain ⟨cells, pos, val, turn, seed, h1, h2, _⟩ := S.ex
  exact (ne_of_none h1 n).symm
theorem StoreAt.ne2 {H : Hp} {a c p : Addr} (S : StoreAt H a c) (n : H p = none) : p ≠ c := by
  obtain ⟨cells, pos, val, turn, seed, h1, h2, _⟩ := S.ex
  exact (ne_of_none h2 n).symm
theorem But.putNew {a p : Addr} {H1 H4 : Hp} {o : HO} (h : But a H1 H4) (np : H1 p = none) : But a H1 (L2.upd H4 p o) := fun b x hb e => by
  rw [upd_ne (ne_of_none e np)]
  exact h b x hb e
theorem But.pushNew {a p : Addr} {H1 H2 : Hp} {o : HO} (np : H1 p = none) (h : But a (L2.upd H1 p o) H2) : But a H1 H2 := fun b x hb e => h b x hb (by rw [upd_ne (ne_of_none e np)]; exact e)
theorem But.free {a c q : Addr} {H H' : Hp} (h : But a H H') (S : StoreAt H' a c) (n : H' q = none) : H q = none := by
  cases e : H q with
  | none => rfl
  | some o =>
    have := h q o (S.ne1 n) e
    rw [n] at this
    cases this
theorem size_ok {n : Nat} (h : n ≤ 1000000) : n < sizeLine := Nat.lt_of_le_of_lt h (by rw [PySem.sizeLine_eq]; decide)
/-! comprehensions with a test, folded -/
def LcT (J : It) (g : TG) (tt : TT) (te : TE) (vs : List Nat) (σ : L2.St) (H1 : Hp) (D : Addr) (Q : Hp → Prop) : Prop := ∃ W : Nat → Nat → Hp → Prop, (∃ m, W 0 m (L2.upd H1 D (.lst []))) ∧ ∀ i m G, W i m G →
  (J.stop i G ∧ Q G) ∨ (J.go i G ∧ ∃ Nx : Hp → Prop, (∀ G', Nx G' → ∃ m', m' < m ∧ W (i + 1) m' G') ∧ ∀ x G', J.yld i G x G' → g x (wipe σ vs) G' fun ω G2 => wipe ω vs = wipe σ vs ∧ tt ω G2 fun b G3 =>
    if b = true then te ω G3 fun y G4 => ∃ got, G4 D = some (.lst got) ∧ got.length < sizeLine ∧ Nx (L2.upd G4 D (.lst (got ++ [y]))) else Nx G3)
theorem lcT_eq {K : PySem.W.Frag} {tl te : TE} {g : TG} {tt : TT} {vs : List Nat} {σ : L2.St} {H : Hp} {Q : VK} : tLc (iList K tl) g tt te vs σ H Q = tl σ H (fun v H1 => ∃ a, v = V.ref a ∧ ∃ xs, SqL K H1 a xs ∧ ∀ D, H1 D = none → LcT (Itl K a) g tt te vs σ H1 D (Q (.ref D))) := by
  show tl σ H _ = tl σ H _
  congr 1
  funext v H1
  exact propext ⟨fun ⟨a, e, ⟨xs, h⟩, q⟩ => ⟨a, e, xs, h, q⟩, fun ⟨a, e, xs, h, q⟩ => ⟨a, e, ⟨xs, h⟩, q⟩⟩
theorem lcRT_eq {ta : TA} {te : TE} {g : TG} {tt : TT} {vs : List Nat} {σ : L2.St} {H : Hp} {Q : VK} : tLc (iRng1 ta) g tt te vs σ H Q = ta σ H (fun vs' H1 => ∃ j : Int, vs' = [V.int j] ∧ -(2 ^ 62) ≤ j ∧ j < 2 ^ 62 ∧ ∀ D, H1 D = none → LcT (Itr 0 j.toNat) g tt te vs σ H1 D (Q (.ref D))) := rfl
section
variable {j : Nat} {tt : TT} {te : TE} {vs : List Nat} {σ : L2.St} {H1 : Hp} {D : Addr} {Qd : Hp → Prop}
theorem r_lcT {K : PySem.W.Frag} {a : Addr} (xs : List V) (Pv : Nat → Hp → Prop) (hw : ∀ x, wipe ((wipe σ vs).set j (some x)) vs = wipe σ vs) (h0 : Pv 0 (L2.upd H1 D (.lst []))) (hl : ∀ i H, i ≤ xs.length → Pv i H → SqL K H a xs)
    (hs : ∀ i x H, xs[i]? = some x → Pv i H → ∀ (N : VK) (M : Hp → Prop), (∀ y H4 got, H4 D = some (.lst got) → got.length < sizeLine → Pv (i + 1) (L2.upd H4 D (.lst (got ++ [y]))) → N y H4) → (∀ H3, Pv (i + 1) H3 → M H3) →
      tt ((wipe σ vs).set j (some x)) H fun b H3 => if b = true then te ((wipe σ vs).set j (some x)) H3 N else M H3) (hd : ∀ H, Pv xs.length H → Qd H) : LcT (Itl K a) (gName j) tt te vs σ H1 D Qd :=
  lc_list (g := gName j) Pv h0 hl (fun i x H hx hp => ⟨hw x, hs i x H hx hp _ _ (fun y H4 got h1 h2 h3 => ⟨got, h1, h2, h3⟩) fun _ h => h⟩) hd
theorem r_lcTL {K : PySem.W.Frag} {a : Addr} (xs : List V) (Pv : Nat → Hp → Prop) (hw : ∀ x, wipe ((wipe σ vs).set j (some x)) vs = wipe σ vs) (h0 : Pv 0 (L2.upd H1 D (.lst []))) (hl : ∀ i H, i ≤ xs.length → Pv i H → SqL K H a xs)
    (hs : ∀ i x H, xs[i]? = some x → Pv i H → ∀ N : VK, (∀ y H4 got, H4 D = some (.lst got) → got.length < sizeLine → Pv (i + 1) (L2.upd H4 D (.lst (got ++ [y]))) → N y H4) → te ((wipe σ vs).set j (some x)) H N) (hd : ∀ H, Pv xs.length H → Qd H) : LcT (Itl K a) (gName j) tYes te vs σ H1 D Qd :=
  r_lcT xs Pv hw h0 hl (fun i x H hx hp N M kN _ => by
    simp only [tYes, if_pos]
    exact hs i x H hx hp N kN) hd
theorem r_lcRT {n : Nat} (Pv : Nat → Hp → Prop) (hw : ∀ x, wipe ((wipe σ vs).set j (some x)) vs = wipe σ vs) (h0 : Pv 0 (L2.upd H1 D (.lst [])))
    (hs : ∀ i H, i < n → Pv i H → ∀ (N : VK) (M : Hp → Prop), (∀ y H4 got, H4 D = some (.lst got) → got.length < sizeLine → Pv (i + 1) (L2.upd H4 D (.lst (got ++ [y]))) → N y H4) → (∀ H3, Pv (i + 1) H3 → M H3) →
      tt ((wipe σ vs).set j (some (.int (0 + i)))) H fun b H3 => if b = true then te ((wipe σ vs).set j (some (.int (0 + i)))) H3 N else M H3) (hd : ∀ H, Pv n H → Qd H) : LcT (Itr 0 n) (gName j) tt te vs σ H1 D Qd :=
  lc_range (g := gName j) Pv h0 (fun i H hi hp => ⟨hw _, hs i H hi hp _ _ (fun y H4 got h1 h2 h3 => ⟨got, h1, h2, h3⟩) fun _ h => h⟩) hd
end
theorem But0.new {H : Hp} {D : Addr} {x : HO} (h : H D = none) : ∀ b o, H b = some o → L2.upd H D x b = some o := fun b o e => by
  rw [upd_ne (fun z => by rw [z, h] at e; cases e)]
  exact e
theorem But0.put {H H' : Hp} {D : Addr} {x : HO} (h : H D = none) (k : ∀ b o, H b = some o → H' b = some o) : ∀ b o, H b = some o → L2.upd H' D x b = some o := fun b o e => by
  rw [upd_ne (fun z => by rw [z, h] at e; cases e)]
  exact k b o e
theorem kp_ne {H : Hp} {p D : Addr} {o : HO} (h : H p = some o) (n : H D = none) : p ≠ D := fun z => by
  rw [z, n] at h
  cases h
theorem But0.put' {H : Hp} {p D : Addr} {o x : HO} (h : H p = some o) (n : p ≠ D) : L2.upd H D x p = some o := (upd_ne n).trans h
theorem at_lst {H : Hp} {a : Addr} {xs : List V} {l : List Dat} (h : H a = some (.lst xs)) (hl : xs.length ≤ 1000000) (r : AtL H (fun _ => True) l xs) : At H (fun _ => True) (.lst l) (.ref a) := ⟨a, xs, rfl, trivial, h, hl, r⟩
theorem at_tup {H : Hp} {a : Addr} {xs : List V} {l : List Dat} (h : H a = some (.tup xs)) (hl : xs.length ≤ 1000000) (r : AtL H (fun _ => True) l xs) : At H (fun _ => True) (.tup l) (.ref a) := ⟨a, xs, rfl, trivial, h, hl, r⟩
theorem atl_cons {H : Hp} {A : Addr → Prop} {d : Dat} {l : List Dat} {v : V} {r : List V} (h : At H A d v) (h2 : AtL H A l r) : AtL H A (d :: l) (v :: r) := ⟨v, r, rfl, h, h2⟩
def Keeps (H H' : Hp) : Prop := ∀ b o, H b = some o → H' b = some o
theorem Keeps.refl (H : Hp) : Keeps H H := fun _ _ h => h
theorem Keeps.trans {H H1 H2 : Hp} (h : Keeps H H1) (k : Keeps H1 H2) : Keeps H H2 := fun b o e => k b o (h b o e)
theorem Keeps.new {H : Hp} {p : Addr} {x : HO} (n : H p = none) : Keeps H (L2.upd H p x) := But0.new n
theorem Keeps.put {H H' : Hp} {p : Addr} {x : HO} (k : Keeps H H') (n : H p = none) : Keeps H (L2.upd H' p x) := But0.put n k
theorem Keeps.free {H H' : Hp} {p : Addr} (k : Keeps H H') (n : H' p = none) : H p = none := by
  cases e : H p with
  | none => rfl
  | some o => rw [k p o e] at n; cases n
theorem Keeps.store {H H' : Hp} {a c : Addr} (S : StoreAt H a c) (k : Keeps H H') : StoreAt H' a c := by
  obtain ⟨⟨cells, pos, val, turn, seed, h1, h2, h3, h4⟩, n⟩ := S
  exact ⟨⟨cells, pos, val, turn, seed, k _ _ h1, k _ _ h2, h3, h4⟩, n⟩
theorem Keeps.but {a : Addr} {H H' : Hp} (k : Keeps H H') : But a H H' := fun b o _ e => k b o e
theorem inV_strs (z : Str) : ∀ ws : List Str, inV (.str z) (ws.map V.str) = decide (z ∈ ws)
  | [] => rfl
  | y :: ws => by
    have ih := inV_strs z ws
    unfold inV at ih ⊢
    rw [List.map_cons, List.any_cons, ih]
    show ((y == z) || decide (z ∈ ws)) = decide (z ∈ y :: ws)
    by_cases h : y = z
    · subst h
      simp
    · have e : (y == z) = false := by simpa using h
      rw [e, Bool.false_or]
      exact decide_eq_decide.mpr ⟨fun m => List.mem_cons_of_mem _ m, fun m => (List.mem_cons.mp m).elim (fun z' => absurd z'.symm h) id⟩
theorem flat_strs : ∀ ws : List Str, (ws.map V.str).all flatV = true
  | [] => rfl
  | _ :: ws => flat_strs ws
/-- a text in a row of texts -/
def rInW (K : PySem.W.Frag) : R2 := fun x y H Q => ∃ z, x = .str z ∧ ∃ p, y = .ref p ∧ ∃ ws : List Str, (SqL K H p (ws.map V.str) ∨ SqT K H p (ws.map V.str)) ∧ Q (.bl (decide (z ∈ ws))) H
def rNinW (K : PySem.W.Frag) : R2 := fun x y H Q => ∃ z, x = .str z ∧ ∃ p, y = .ref p ∧ ∃ ws : List Str, (SqL K H p (ws.map V.str) ∨ SqT K H p (ws.map V.str)) ∧ Q (.bl (!decide (z ∈ ws))) H
theorem op_inW {X : Cx} {K : PySem.W.Frag} (h : X.K = K := by rfl) : OpR X (compareOp .In) (rInW K) := opR_mono (h ▸ op_in_seq) fun _ _ _ _ ⟨z, e, p, e2, ws, hs, q⟩ => ⟨p, _, e2, hs, by rw [e]; rfl, flat_strs ws, by rw [e, inV_strs]; exact q⟩
theorem op_ninW {X : Cx} {K : PySem.W.Frag} (h : X.K = K := by rfl) : OpR X (compareOp .NotIn) (rNinW K) := opR_mono (h ▸ op_notIn_seq) fun _ _ _ _ ⟨z, e, p, e2, ws, hs, q⟩ => ⟨p, _, e2, hs, by rw [e]; rfl, flat_strs ws, by rw [e, inV_strs]; exact q⟩
/-- a class's own def -/
def clsS (i j : Nat) : Stmt := match topS i with
  | .ClassDef _ _ _ b _ _ _ _ _ _ _ => b.getD j (.Pass ⟨0, 0, 0, 0⟩)
  | _ => .Pass ⟨0, 0, 0, 0⟩
def spIni1 (C : Addr) (fld : Str) : Sp := fun vs H Q _ => ∃ a y, vs = [.ref a, y] ∧ H a = some (exo a C none) ∧ ∀ dx, H dx = none → dx ≠ a → Q .non (L2.upd (L2.upd H dx (exd dx [(fld, y)])) a (exo a C (some dx)))
def spIni2 (C : Addr) (f1 f2 : Str) : Sp := fun vs H Q _ => ∃ a y z, vs = [.ref a, y, z] ∧ H a = some (exo a C none) ∧ ∀ dx, H dx = none → dx ≠ a → Q .non (L2.upd (L2.upd (L2.upd H dx (exd dx [(f1, y)])) a (exo a C (some dx))) dx (exd dx [(f2, z), (f1, y)]))
section
variable {P : Program} {w : World} {K : PySem.W.Frag} {mg : Str → Option Value} {base : Heap}
/-- a def that may let an exception out, its context None -/
theorem okN {x qual : Str} {st : Stmt} {f : Addr} {fd : FuncData} {N ps : List Str} {k : Nat} {sp : Sp} (F : Fun K x qual st f fd) (S : FnScope N ps (defScope st)) (len : ∀ vs H Q E, sp vs H Q E → vs.length = ps.length)
    (body : ∀ (cdv : Value) (A : Around) (outer : List Env) (s : Shared) (H : Hp) (vs : List V) (Q : VK) (E : XK), Room k (A.deeper (envOfC qual (defScope st) s.heap.objs.size f cdv)) → sp vs H Q E →
      ∃ t, PSs (cxOf (L2N.CX P w) P w K mg base N qual (defScope st) f cdv A outer s H E) (defBody st) t ∧ t { nx := fun _ H' => Q .non H', rt := Q } (L2.start N vs) H) : FnOk P w K mg base (L2N.CX P w) (k + 1) f fd ps sp := by
  obtain ⟨oc, od, kV, doc, pm, an, cdv, ct, osl, rfl, lk, hcd⟩ := F.ex
  refine fn_of lk hcd S len ?_
  intro A outer s H vs Q E hr h
  exact body cdv A outer s H vs Q E hr h
/-- what is known of an own exception class -/
structure Exn (K : PySem.W.Frag) (mg : Str → Option Value) (x : Str) (C fI : Addr) : Prop where
  oex : OexC K C
  g : mg x = some (.ref C)
  ini : PySem.W.findIn K (.ref C) "__init__" = some (some (.ref fI))
  fn : PySem.W.typeIn K (.ref fI) = some (.type "function")
theorem mk_same {H : Hp} {a d : Addr} {u v w x : HO} (na : H a = none) (ne : d ≠ a) : L2.upd (del (L2.upd (L2.upd (L2.upd H a u) d v) a w) a) d x = L2.upd H d x := by
  funext b
  by_cases h1 : b = d
  · rw [h1, upd_same, upd_same]
  · rw [upd_ne h1, upd_ne h1]
    by_cases h2 : b = a
    · rw [h2, del_same, na]
    · rw [del_ne h2, upd_ne h2, upd_ne h1, upd_ne h2]
theorem mk1 {C : Addr} {fld : Str} {y : V} {H : Hp} {Q : XK} (q : ∀ d, H d = none → Q (.ref C) (some d) (L2.upd H d (.xd [(fld, y)]))) : [y].length ≤ 1000 ∧ ∀ a, H a = none → spIni1 C fld (.ref a :: ([y] ++ [])) (L2.upd H a (exo a C none))
    (fun v H2 => v = .non ∧ ∃ (d : Addr) (fs : List (Str × V)), H2 a = some (exo a C (some d)) ∧ H2 d = some (exd d fs) ∧ H d = none ∧ Q (.ref C) (some d) (L2.upd (del H2 a) d (.xd fs))) (fun _ _ _ => False) := by
  refine ⟨by rw [List.length_singleton]; decide, fun a na => ⟨a, y, rfl, upd_same, fun dx n ne => ?_⟩⟩
  have n' : H dx = none := (upd_ne ne).symm.trans n
  refine ⟨rfl, dx, _, upd_same, (upd_ne ne).trans upd_same, n', ?_⟩
  rw [mk_same na ne]
  exact q dx n'
end
theorem mk2 {C : Addr} {f1 f2 : Str} {y z : V} {H : Hp} {Q : XK} (q : ∀ d, H d = none → Q (.ref C) (some d) (L2.upd H d (.xd [(f2, z), (f1, y)]))) : [y, z].length ≤ 1000 ∧ ∀ a, H a = none → spIni2 C f1 f2 (.ref a :: ([y, z] ++ [])) (L2.upd H a (exo a C none))
    (fun v H2 => v = .non ∧ ∃ (d : Addr) (fs : List (Str × V)), H2 a = some (exo a C (some d)) ∧ H2 d = some (exd d fs) ∧ H d = none ∧ Q (.ref C) (some d) (L2.upd (del H2 a) d (.xd fs))) (fun _ _ _ => False) := by
  refine ⟨Nat.le_of_ble_eq_true rfl, fun a na => ⟨a, y, z, rfl, upd_same, fun dx n ne => ?_⟩⟩
  have n' : H dx = none := (upd_ne ne).symm.trans n
  refine ⟨rfl, dx, _, (upd_ne (Ne.symm ne)).trans upd_same, upd_same, n', ?_⟩
  have e : ∀ (u v w v2 x : HO), L2.upd (del (L2.upd (L2.upd (L2.upd (L2.upd H a u) dx v) a w) dx v2) a) dx x = L2.upd H dx x := fun u v w v2 x => by
    funext b
    by_cases h1 : b = dx
    · rw [h1, upd_same, upd_same]
    · rw [upd_ne h1, upd_ne h1]
      by_cases h2 : b = a
      · rw [h2, del_same, na]
      · rw [del_ne h2, upd_ne h1, upd_ne h2, upd_ne h1, upd_ne h2]
  rw [e]
  exact q dx n'
/-- a def of the top whose parameters are not all positional -/
structure Dk (K : PySem.W.Frag) (mg : Str → Option Value) (x : Str) (st : Stmt) (f : Addr) (fd : FuncData) : Prop where
  F : Fun K x x st f fd
  g : mg x = some (.ref f)
def spPickL : Sp := fun vs H Q _ => ∃ (a c p : Addr) (xs : List V), vs = [.ref a, .ref p] ∧ StoreAt H a c ∧ H p = some (.lst xs) ∧ p ≠ a ∧ xs ≠ [] ∧ xs.length ≤ 1000 ∧ Drawn H a c (fun v => v ∈ xs) Q
end K01
namespace K01
open PySem PySem.Spec PyProof.Rows L2 TL HotExc
local macro_rules | `(tactic| walk_at "rd") => `(tactic| simp only [start1, wipe, isR, isBool, isInt, isStr, isLst, isTup, tAsg, gName, gSub, tVar, tC, tOp, tUn, tTest, tIfS, tRet, tRetN, tDrop, tB, tAnd, tOr, tNot, tAndV, tOrV, tNotV, tIf, tCB, tCons, tNil, tNext, tCall, tBM, tTup, tLst, rI0, rI, rEq, rNe, scal, forR_eq, forR2_eq, forS_eq, forL_eq, lcT_eq, lcRT_eq, lcS_eq, rLenX, rLenS, rListOf, tRevL, rMulS, rRepL, rCatL, tPart, tNoPart, CwR.tReplC, rAllK, rInSg, rNinSg, sgn_inj, rAddS, rInSt, tChain, tM1, tM0, rSplitN, rJoinN, exists_eq, rIntI, rIntB, rIntS, rStrI, rAbs, rOrd, rMin, rMax, rIxL, rIxX, rSetL, rAppend, rIxS, rSlS, rSlL, tSl, List.map_cons, List.map_nil, List.replicate_succ, List.replicate_zero, List.length_cons, List.length_nil, Nat.reduceSub, Nat.reduceAdd, Nat.zero_add, Nat.sub_self, List.getElem?_cons_zero, List.getElem?_cons_succ, List.set_cons_zero, List.set_cons_succ, List.append_nil, List.nil_append, List.cons_append, Option.some.injEq, not_true_eq_false, reduceCtorEq, exists_eq_left', exists_eq_left, exists_eq', exists_and_left, exists_and_right, V.int.injEq, V.str.injEq, V.bl.injEq, V.ref.injEq, List.cons.injEq, and_true, true_and, and_assoc, decide_eq_true_eq, Bool.not_eq_true', decide_eq_false_iff_not, ite_true, ite_false, if_true, if_false, Bool.not_true, Bool.not_false, Bool.false_eq_true, eq_self_iff_true, reduceIte, ne_eq, Int.reduceEq, not_false_eq_true])
local macro_rules | `(tactic| walk_at "rt") => `(tactic| try walk_at "rd")
local macro_rules | `(tactic| walk_at "st") => `(tactic| (walk_at "rt"; refine r_seq ?_; walk_at "rt"))
local macro_rules | `(tactic| walk_at "hp") => `(tactic| first | assumption | exact upd_same | (rw [upd_ne (by assumption)]; walk_at "hp"))
local macro_rules | `(tactic| walk_at "ex1") => `(tactic| ((with_reducible refine Exists.intro ?w (And.intro ?hx ?_)); (case hx => first | exact sq_of (by walk_at "hp") | exact .inl (sq_of (by walk_at "hp")) | exact rfl | (show _ = some (HO.lst _); walk_at "hp"))))
local macro_rules | `(tactic| walk_at "ex") => `(tactic| repeat (first | walk_at "ex1" | walk_at "rd"))
theorem same_ok {n : Nat} {x y : V} {d : Dat} {H : Hp} {Q : VK} {E : XK} (hx : At H (fun _ => True) d x) (hy : At H (fun _ => True) d y) (hd : d.dep ≤ n) (q : Q (.bl true) H) : spSame n [x, y] H Q E := ⟨x, y, _, _, d, d, rfl, hx, hy, hd, by rw [same_refl]; exact q⟩
theorem store_tup {H : Hp} {a c l : Addr} {xs : List V} (S : StoreAt H a c) (h : H l = some (.tup xs)) : l ≠ a := fun e => by
  obtain ⟨_, _, _, _, _, h2, _⟩ := S.ex
  rw [e, h2] at h
  cases h
def spLaw (K : PySem.W.Frag) : Sp := fun vs H Q _ => ∃ (a : Addr) (ns : List Int), vs = [.ref a] ∧ SqL K H a (ns.map V.int) ∧ ns.length ≤ 63 ∧ ∀ H', Q (.bl true) H'
section
variable {P : Program} {w : World} {K : PySem.W.Frag} {mg : Str → Option Value} {base : Heap}
theorem ok_pickL {f f_take : Addr} {fd fd_take : FuncData} (B : Bi mg) (D : Dn K mg "_law_pick" s_pick ["store", "row"] f fd) (D_take : Dn K mg "_law_take" s_take ["store", "many"] f_take fd_take)
    (G_take : FnOk P w K mg base CX0 2 f_take fd_take ["store", "many"] spTake) : FnOk P w K mg base CX0 3 f fd ["store", "row"] spPickL := by
  refine D.F.ok sc_pick (fun vs H Q E h => ?_) (fun cdv A outer s H vs Q E hr h => ?_)
  · obtain ⟨a, c, p, xs, rfl, _⟩ := h
    rfl
  · obtain ⟨a, c, p, xs, rfl, S, hp, hpa, hne, hl, q⟩ := h
    refine ⟨_, (pss_cons (ps_if (pt_cmpR op_eq (pe_callB (call_lenXK (K := K)) (by rfl) B.len PySem.boot_len (pa_cons (pv 1) pa_nil)) pe_int (nomark _)) (pss_one (ps_ret pe_non)) pss_nil)
      (pss_one (ps_ret (pe_ix (ix_listK (K := K)) (pv 1) (pe_call G_take (hr.mono (by omega)) (by rfl) D_take.g D_take.F.kp D_take.b .nil pass0 (pa_cons (pv 0) (pa_cons (pe_callB (call_lenXK (K := K)) (by rfl) B.len PySem.boot_len (pa_cons (pv 1) pa_nil)) pa_nil))) (fun _ _ => rfl)))))
, ?_⟩
    have hpos : 0 < xs.length := List.length_pos_iff.mpr hne
    walk_at "st"
    refine ⟨_, .inl (sq_of hp), ite2 (fun e => absurd e (by omega)) (fun _ => ?_)⟩
    walk_at "rt"
    refine ⟨_, .inl (sq_of hp), ?_⟩
    refine ⟨a, c, _, rfl, S, by omega, fun v H' S' b' ⟨r, e, r0, r1⟩ => ?_⟩
    subst e
    obtain ⟨k, hk, hk2⟩ := atI_get (xs := xs) (i := r) r0 (by omega)
    walk_at "rt"
    exact ⟨_, sq_of (b' p _ hpa hp), _, hk, q _ _ S' b' (List.mem_of_getElem? hk2)⟩
end
end K01
/-! f( *x, e ): a starred argument ahead of others -/
namespace HotExc
open PySem PySem.Spec PyProof.Rows L2
theorem evalArgs_more {M : Model} {A : Around} {E : Value → Shared → Prop} {s : Shared} {f : Value} {b : Bool} {x : Sem Value} {y : Bool × Sem Value} {rest : List (Bool × Sem Value)} {Q : Args → Shared → Prop}
    (h : wpAny M A (spliced ((b, x) :: y :: rest)) (fun vs s' => Q ⟨vs, []⟩ s') E s) : wpAny M A (evalArgs f true ((b, x) :: y :: rest) []) Q E s := by
  unfold evalArgs
  cases b with
  | false =>
    show wpAny M A (spliced ((false, x) :: y :: rest) >>= _) Q E s
    refine wpAny_bind (wpAny_mono h (fun vs s' h' => ?_) fun _ _ x => x)
    refine wpAny_holding ?_
    exact wpAny_bind (wpAny_pure (wpAny_bind (wpAny_pure (wpAny_pure h'))))
  | true =>
    show wpAny M A (spliced ((true, x) :: y :: rest) >>= _) Q E s
    refine wpAny_bind (wpAny_mono h (fun vs s' h' => ?_) fun _ _ x => x)
    refine wpAny_holding ?_
    exact wpAny_bind (wpAny_pure (wpAny_bind (wpAny_pure (wpAny_pure h'))))
def tCallT (sp : Sp) (E : XK) (t : TA) : TE := fun σ H Q => t σ H fun vs H1 => sp vs H1 Q E
theorem pe_callT {X : Cx} {CX : CXT} {k : Nat} {f : Addr} {fd : FuncData} {ps : List Str} {sp : Sp} {E : XK} {x : Str} {p sp_ pos : Pos} {e e2 : Expr} {es : List Expr} {t : TA}
    (F : FnOk X.prog X.w X.K X.mg X.base CX k f fd ps sp) (hr : Room k X.A) (hg : Gl X x) (hm : X.mg x = some (.ref f)) (hk : PySem.W.keepIn X.K (.ref f) = true) (hb : Binds X.K fd ps []) (hx : Passes CX X E) (ha : PA X (.Starred e sp_ :: e2 :: es) t)
    (hdb : (x == ("__debug__" : Str)) = false := by decide) (he : starEach (.Starred e sp_ :: e2 :: es) X.env = (true, eval e X.env) :: starEach (e2 :: es) X.env := by rfl)
    (he2 : starEach (e2 :: es) X.env = (false, eval e2 X.env) :: starEach es X.env := by rfl) : PE X (.Call (.Name x p) (.Starred e sp_ :: e2 :: es) [] pos) (tCallT sp E t) := by
  refine ⟨fun pins s σ H Q I h => ?_⟩
  refine wpAny_Call_Name_kw (ld_glob I hg hm ?_ hdb)
  have z := ha.run pos pins s σ H _ I h
  rw [he, he2] at z ⊢
  refine PySem.W.ks_call rfl (PySem.W.keeps_K hk) (evalArgs_more (thn z fun us s1 ⟨vs, H1, I1, r, q⟩ => ⟨I1.kIn, ?_⟩))
  exact run_fn F hr hb .nil hx I1 r (by rw [List.append_nil]; exact q)
def TTm (c : TT) : Prop := ∀ (σ : L2.St) (H : Hp) (Q Q' : Bool → Hp → Prop), (∀ b H, Q b H → Q' b H) → c σ H Q → c σ H Q'
theorem r_while {c : TT} {tb : TS} {D : Ends} {σ : L2.St} {H : Hp} (hm : TTm c) (W : Nat → L2.St → Hp → Prop) (h0 : ∃ m, W m σ H)
    (hs : ∀ m σ H, W m σ H → ∀ N : L2.St → Hp → Prop, (∀ m' σ' H', m' < m → W m' σ' H' → N σ' H') → c σ H fun b H1 => if b = true then tb { D with nx := N, ct := N, bk := D.nx } σ H1 else D.nx σ H1) : tWhile c tb D σ H := by
  refine ⟨W, h0, fun m σ H w => ?_⟩
  refine hm σ H _ _ (fun b H1 q => ?_) (hs m σ H w (fun σ' H' => ∃ m', m' < m ∧ W m' σ' H') fun m' σ' H' l w => ⟨m', l, w⟩)
  cases b with
  | true => exact ⟨_, fun σ' H' h => h, q⟩
  | false => exact q
theorem mono_notN {i : Nat} : TTm (tTest (tOp (fun x y H Q => y = .non ∧ Q (.bl (!decide (x = .non))) H) (tVar i) (tC .non))) := by
  rintro σ H Q Q' k ⟨x, hx, hy, b, e, q⟩
  exact ⟨x, hx, hy, b, e, k _ _ q⟩
end HotExc
namespace K01
open PySem PySem.Spec PyProof.Rows L2 TL HotExc
local macro_rules | `(tactic| walk_at "rd") => `(tactic| simp only [start1, wipe, isR, isBool, isInt, isStr, isLst, isTup, tAsg, gName, gSub, tVar, tC, tOp, tUn, tTest, tIfS, tRet, tRetN, tDrop, tB, tAnd, tOr, tNot, tAndV, tOrV, tNotV, tIf, tCB, tCons, tNil, tNext, tCall, tBM, tTup, tLst, rU, rInW, rNinW, Int.reduceNeg, tG, tG2, sP, tDisp, tPairs, tCallS, tCallSD, tCallT, StX.tStar, tCallK, tCallKS, rTupOf, tDrop, rI0, rI, rEq, rNe, scal, forR_eq, forR2_eq, forS_eq, forL_eq, lcT_eq, lcRT_eq, lcS_eq, rLenX, rLenS, rListOf, tRevL, rMulS, rRepL, rCatL, tPart, tNoPart, CwR.tReplC, rAllK, rInSg, rNinSg, sgn_inj, rAddS, rInSt, tChain, tM1, tM0, rSplitN, rJoinN, exists_eq, rIntI, rIntB, rIntS, rStrI, rAbs, rOrd, rMin, rMax, rIxL, rIxX, rSetL, rAppend, rIxS, rSlS, rSlL, tSl, List.map_cons, List.map_nil, List.replicate_succ, List.replicate_zero, List.length_cons, List.length_nil, Nat.reduceSub, Nat.reduceAdd, Nat.zero_add, Nat.sub_self, List.getElem?_cons_zero, List.getElem?_cons_succ, List.set_cons_zero, List.set_cons_succ, List.append_nil, List.nil_append, List.cons_append, Option.some.injEq, not_true_eq_false, reduceCtorEq, exists_eq_left', exists_eq_left, exists_eq', exists_and_left, exists_and_right, V.int.injEq, V.str.injEq, V.bl.injEq, V.ref.injEq, List.cons.injEq, and_true, true_and, and_assoc, decide_eq_true_eq, Bool.not_eq_true', decide_eq_false_iff_not, ite_true, ite_false, if_true, if_false, Bool.not_true, Bool.not_false, Bool.false_eq_true, eq_self_iff_true, reduceIte, ne_eq, Int.reduceEq, not_false_eq_true])
local macro_rules | `(tactic| walk_at "rt") => `(tactic| try walk_at "rd")
local macro_rules | `(tactic| walk_at "st") => `(tactic| (walk_at "rt"; refine r_seq ?_; walk_at "rt"))
local macro_rules | `(tactic| walk_at "hp") => `(tactic| first | assumption | exact upd_same | (rw [upd_ne (by assumption)]; walk_at "hp"))
local macro_rules | `(tactic| walk_at "ex1") => `(tactic| ((with_reducible refine Exists.intro ?w (And.intro ?hx ?_)); (case hx => first | exact sq_of (by walk_at "hp") | exact .inl (sq_of (by walk_at "hp")) | exact rfl | (show _ = some (HO.lst _); walk_at "hp"))))
local macro_rules | `(tactic| walk_at "ex") => `(tactic| repeat (first | walk_at "ex1" | walk_at "rd"))
abbrev s_isnumber : Stmt := topS 7
theorem sc_isnumber : FnScope ["value"] ["value"] (defScope s_isnumber) := ⟨rfl, rfl, rfl, by decide +kernel, rfl, by decide +kernel, by decide +kernel⟩
abbrev s_checknumber : Stmt := topS 8
theorem sc_checknumber : FnScope ["what", "value", "least", "most"] ["what", "value", "least", "most"] (defScope s_checknumber) := ⟨rfl, rfl, rfl, by decide +kernel, rfl, by decide +kernel, by decide +kernel⟩
abbrev s_checkbounds : Stmt := topS 22
theorem sc_checkbounds : FnScope ["own", "other", "shared", "most"] ["own", "other", "shared", "most"] (defScope s_checkbounds) := ⟨rfl, rfl, rfl, by decide +kernel, rfl, by decide +kernel, by decide +kernel⟩
abbrev s_checkrace : Stmt := topS 23
theorem sc_checkrace : FnScope ["own", "other", "shared", "most"] ["own", "other", "shared", "most"] (defScope s_checkrace) := ⟨rfl, rfl, rfl, by decide +kernel, rfl, by decide +kernel, by decide +kernel⟩
abbrev s_iBadNumber : Stmt := clsS 2 0
theorem sc_iBadNumber : FnScope ["self", "what", "value"] ["self", "what", "value"] (defScope s_iBadNumber) := ⟨rfl, rfl, rfl, by decide +kernel, rfl, by decide +kernel, by decide +kernel⟩
/-! ### numbers of a race -/
def Num (x : V) : Bool := match x with | .int _ => true | _ => false
def Thing (x : V) : Prop := (∃ k, x = .bl k) ∨ x = .non ∨ ∃ n, x = .int n
def fitsB (x : V) (lo hi : Int) : Bool := match x with | .int n => decide (lo ≤ n) && decide (n ≤ hi) | _ => false
def bfault (x y z : V) (hi : Int) : Option (Str × V) :=
  if fitsB x 0 hi = false then some (Str.ofString "own", x) else if fitsB y 0 hi = false then some (Str.ofString "other", y) else if fitsB z 0 hi = false then some (Str.ofString "shared", z) else none
def zfault (x y z : V) : Option (Str × V) := match x, y, z with
  | .int a, .int b, .int c => if a + c = 0 then some (Str.ofString "own", x) else if b + c = 0 then some (Str.ofString "other", y) else none
  | _, _, _ => none
/-- what BadNumber tells of three things -/
def fault (x y z : V) (hi : Int) : Option (Str × V) := match bfault x y z hi with | some p => some p | none => zfault x y z
structure Race (hi a b c : Int) : Prop where
  a0 : 0 ≤ a
  a1 : a ≤ hi
  b0 : 0 ≤ b
  b1 : b ≤ hi
  c0 : 0 ≤ c
  c1 : c ≤ hi
  ac : 1 ≤ a + c
  bc : 1 ≤ b + c
theorem fitsB_int {n lo hi : Int} : fitsB (.int n) lo hi = (decide (lo ≤ n) && decide (n ≤ hi)) := rfl
theorem fits_int {x : V} {lo hi : Int} (h : ¬ fitsB x lo hi = false) : ∃ n, x = .int n ∧ lo ≤ n ∧ n ≤ hi := by
  cases x with
  | int n =>
    have h : fitsB (.int n) lo hi = true := by simpa using h
    unfold fitsB at h
    simp only [Bool.and_eq_true, decide_eq_true_eq] at h
    exact ⟨n, rfl, h⟩
  | _ => exact absurd rfl h
theorem bfault_none {x y z : V} {hi : Int} (h : bfault x y z hi = none) : ∃ a b c : Int, x = .int a ∧ y = .int b ∧ z = .int c ∧ (0 ≤ a ∧ a ≤ hi) ∧ (0 ≤ b ∧ b ≤ hi) ∧ (0 ≤ c ∧ c ≤ hi) := by
  unfold bfault at h
  by_cases h1 : fitsB x 0 hi = false
  · rw [if_pos h1] at h; cases h
  · rw [if_neg h1] at h
    by_cases h2 : fitsB y 0 hi = false
    · rw [if_pos h2] at h; cases h
    · rw [if_neg h2] at h
      by_cases h3 : fitsB z 0 hi = false
      · rw [if_pos h3] at h; cases h
      · obtain ⟨a, ea, ha⟩ := fits_int h1
        obtain ⟨b, eb, hb⟩ := fits_int h2
        obtain ⟨c, ec, hc⟩ := fits_int h3
        exact ⟨a, b, c, ea, eb, ec, ha, hb, hc⟩
theorem fault_none {x y z : V} {hi : Int} (h : fault x y z hi = none) : ∃ a b c : Int, x = .int a ∧ y = .int b ∧ z = .int c ∧ Race hi a b c := by
  unfold fault at h
  cases e : bfault x y z hi with
  | some p => rw [e] at h; cases h
  | none =>
    rw [e] at h
    obtain ⟨a, b, c, rfl, rfl, rfl, ⟨ha, ha2⟩, ⟨hb, hb2⟩, hc, hc2⟩ := bfault_none e
    simp only [zfault] at h
    by_cases h1 : a + c = 0
    · rw [if_pos h1] at h; cases h
    · rw [if_neg h1] at h
      by_cases h2 : b + c = 0
      · rw [if_pos h2] at h; cases h
      · exact ⟨a, b, c, rfl, rfl, rfl, ha, ha2, hb, hb2, hc, hc2, by omega, by omega⟩
theorem fits_of {n lo hi : Int} (h1 : lo ≤ n) (h2 : n ≤ hi) : ¬ fitsB (.int n) lo hi = false := by
  rw [fitsB_int, decide_eq_true h1, decide_eq_true h2]
  decide
theorem race_fault {hi a b c : Int} (R : Race hi a b c) : fault (.int a) (.int b) (.int c) hi = none := by
  have e : bfault (.int a) (.int b) (.int c) hi = none := by
    unfold bfault
    rw [if_neg (fits_of R.a0 R.a1), if_neg (fits_of R.b0 R.b1), if_neg (fits_of R.c0 R.c1)]
  unfold fault
  rw [e]
  have h1 := R.ac
  have h2 := R.bc
  simp only [zfault]
  rw [if_neg (by omega), if_neg (by omega)]
def Bad (C : Addr) (wh : Str) (x : V) (H : Hp) (E : XK) : Prop := ∀ d, H d = none → E (.ref C) (some d) (L2.upd H d (.xd [(("value" : Str), x), (("what" : Str), .str wh)]))
def spIsNum : Sp := fun vs H Q _ => ∃ x, vs = [x] ∧ Thing x ∧ Q (.bl (Num x)) H
def spCheckN (C : Addr) : Sp := fun vs H Q E => ∃ wh x lo hi, vs = [.str wh, x, .int lo, .int hi] ∧ Thing x ∧ (fitsB x lo hi = true → Q x H) ∧ (fitsB x lo hi = false → Bad C wh x H E)
def spBounds (C : Addr) (g : V → V → V → Int → Option (Str × V)) : Sp := fun vs H Q E => ∃ x y z hi, vs = [x, y, z, .int hi] ∧ Thing x ∧ Thing y ∧ Thing z ∧ (g x y z hi = none → Q .non H) ∧ (∀ wh v, g x y z hi = some (wh, v) → Bad C wh v H E)
/-- a def of three numbers, by what it tells of a race -/
def spRaced (C : Addr) (hi : Int) (more : List V) (G : Int → Int → Int → Hp → VK → Prop) : Sp := fun vs H Q E => ∃ x y z, vs = x :: y :: z :: more ∧ Thing x ∧ Thing y ∧ Thing z ∧
  (∀ a b c, Race hi a b c → x = .int a → y = .int b → z = .int c → G a b c H Q) ∧ (∀ wh v, fault x y z hi = some (wh, v) → Bad C wh v H E)
def kw31 {α : Type} (us ws : List α) : List α := match us, ws with | [a, b, c], [d] => [a, b, c, d] | _, _ => []
theorem kb31 {K : PySem.W.Frag} {fd : FuncData} {ps ks : List Str} (h : ∀ a b c d : Value, bindArgs fd ⟨[a, b, c], ks.zip [d]⟩ = pure (ps.zip [a, b, c, d])) (hp : ps.length = 4) : KBinds K fd ps ks kw31 kw31 where
  to := fun s us ws _ hl => match us, ws, hl with
    | [a, b, c], [d], _ => .of_eq (h a b c d)
    | [], _, e => absurd e (by rw [hp]; exact fun z => nomatch z)
    | [_], _, e => absurd e (by rw [hp]; exact fun z => nomatch z)
    | [_, _], _, e => absurd e (by rw [hp]; exact fun z => nomatch z)
    | _ :: _ :: _ :: _ :: _, _, e => absurd e (by rw [hp]; exact fun z => nomatch z)
    | [_, _, _], [], e => absurd e (by rw [hp]; exact fun z => nomatch z)
    | [_, _, _], _ :: _ :: _, e => absurd e (by rw [hp]; exact fun z => nomatch z)
  rel := fun {vs us zs ws} h1 h2 => match h1, h2 with
    | .cons a (.cons b (.cons c .nil)), .cons d .nil => .cons a (.cons b (.cons c (.cons d .nil)))
    | .nil, _ => .nil
    | .cons _ .nil, _ => .nil
    | .cons _ (.cons _ .nil), _ => .nil
    | .cons _ (.cons _ (.cons _ (.cons _ _))), _ => .nil
    | .cons _ (.cons _ (.cons _ .nil)), .nil => .nil
    | .cons _ (.cons _ (.cons _ .nil)), .cons _ (.cons _ _) => .nil
/-- a def with one keyword-only default, called without it -/
theorem bd31 {K : PySem.W.Frag} {x qual nm : Str} {params : Arguments} {body : List Stmt} {scope : Scope} {f D : Addr} {oc : Value} {od : Option Addr} {doc pm cdv ct u : Value} {an : Option Addr} {osl : Array (Option Value)} {v : V} {ps : List Str}
    (lk : K.lookup f = some ⟨oc, od, .func (PySem.W.fnOf x qual params body scope .none (.ref D) doc pm an cdv ct), osl⟩) (hc : PySem.W.codeIn K cdv qual = true) (hk : PySem.W.keepIn K (.ref f) = true) (hn : PySem.W.nsIn K D nm = some (some u)) (r : RelV v u) (hp : ps.length = 4)
    (h : ∀ (D : Addr) (doc pm : Value) (an : Option Addr) (cdv ct a b c k : Value), KwChain D [(nm, k)] (bindArgs (PySem.W.fnOf x qual params body scope .none (.ref D) doc pm an cdv ct) ⟨[a, b, c], []⟩) (ps.zip [a, b, c, k])) :
    ∃ ds, Vals [v] ds ∧ Binds K (PySem.W.fnOf x qual params body scope .none (.ref D) doc pm an cdv ct) ps ds :=
  FunD.binds0 (kws := [(nm, v)]) ⟨⟨oc, od, .none, .ref D, doc, pm, an, cdv, ct, osl, rfl, lk, hc, .inl ⟨rfl, rfl⟩, .inr ⟨D, rfl, fun q hq => by
    rw [List.mem_singleton.mp hq]
    exact ⟨u, hn, r⟩⟩⟩, hk⟩ 3 (fun e => nomatch e) (by rw [hp]; rfl) fun D doc pm an cdv ct us ks h3 h1 => match us, ks, h3, h1 with
    | [a, b, c], [k], _, _ => h D doc pm an cdv ct a b c k
section
variable {P : Program} {w : World} {K : PySem.W.Frag} {mg : Str → Option Value} {base : Heap}
theorem ok_iBadNumber {C f : Addr} {fd : FuncData} (T : OexC K C) (no1 : PySem.W.findIn K (.ref C) "what" = some none) (no2 : PySem.W.findIn K (.ref C) "value" = some none) (F : Fun K "__init__" "BadNumber.__init__" s_iBadNumber f fd) : FnOk P w K mg base CX0 1 f fd ["self", "what", "value"] (spIni2 C "what" "value") := by
  refine F.ok sc_iBadNumber (fun vs H Q E h => ?_) (fun cdv A outer s H vs Q E hr h => ?_)
  · obtain ⟨a, y, z, rfl, _⟩ := h
    rfl
  · obtain ⟨a, y, z, rfl, ha, q⟩ := h
    refine ⟨_, (pss_cons (ps_ost (pv 0) (pv 1)) (pss_one (ps_ost (pv 0) (pv 2)))), r_seq ?_⟩
    refine ⟨_, rfl, _, rfl, a, C, rfl, T, no1, .inl ⟨ha, fun dx n ne => ?_⟩⟩
    exact ⟨_, rfl, _, rfl, a, C, rfl, T, no2, .inr ⟨dx, _, upd_same, (upd_ne ne).trans upd_same, Nat.le_of_ble_eq_true rfl, q dx n ne⟩⟩
theorem ok_isnumber {f : Addr} {fd : FuncData} (B : Bi mg) (D : Dn K mg "is_number" s_isnumber ["value"] f fd) : FnOk P w K mg base CX0 1 f fd ["value"] spIsNum := by
  refine D.F.ok sc_isnumber (fun vs H Q E h => ?_) (fun cdv A outer s H vs Q E hr h => ?_)
  · obtain ⟨x, rfl, _⟩ := h
    rfl
  · obtain ⟨x, rfl, t, q⟩ := h
    refine ⟨_, (pss_one (ps_ret (pe_and (pe_callB call_is_int (by rfl) B.isinstance (by decide +kernel) (pa_cons (pv 0) (pa_cons (pe_bltn (v := .ty "int") (by rfl) B.int_ (by decide +kernel) rfl) pa_nil))) (pe_one (pe_not (pe_callB call_is_bool (by rfl) B.isinstance (by decide +kernel) (pa_cons (pv 0) (pa_cons (pe_bltn (v := .ty "bool") (by rfl) B.bool_ (by decide +kernel) rfl) pa_nil)))))))), ?_⟩
    rcases t with ⟨k, rfl⟩ | rfl | ⟨n, rfl⟩
    · walk_at "rt"
      refine ⟨fun _ => True, .bl k, rfl, ?_⟩
      walk_at "rt"
      refine ⟨fun _ => True, .bl k, rfl, ?_⟩
      walk_at "rt"
      exact q
    · walk_at "rt"
      refine ⟨fun _ => True, .non, rfl, ?_⟩
      walk_at "rt"
      exact q
    · walk_at "rt"
      refine ⟨fun _ => True, .int n, rfl, ?_⟩
      walk_at "rt"
      refine ⟨fun _ => True, .int n, rfl, ?_⟩
      walk_at "rt"
      exact q
theorem ok_checknumber {C fI f f_isn : Addr} {fdI fd fd_isn : FuncData} (X_BadNumber : Exn K mg "BadNumber" C fI) (BI_BadNumber : Binds K fdI ["self", "what", "value"] []) (GI_BadNumber : FnOk P w K mg base CX0 1 fI fdI ["self", "what", "value"] (spIni2 C "what" "value")) (D : Dn K mg "check_number" s_checknumber ["what", "value", "least", "most"] f fd)
    (D_isnumber : Dn K mg "is_number" s_isnumber ["value"] f_isn fd_isn) (G_isnumber : FnOk P w K mg base CX0 1 f_isn fd_isn ["value"] spIsNum) : FnOk P w K mg base (L2N.CX P w) 3 f fd ["what", "value", "least", "most"] (spCheckN C) := by
  refine okN D.F sc_checknumber (fun vs H Q E h => ?_) (fun cdv A outer s H vs Q E hr h => ?_)
  · obtain ⟨wh, x, lo, hi, rfl, _⟩ := h
    rfl
  · obtain ⟨wh, x, lo, hi, rfl, th, h1, h2⟩ := h
    refine ⟨_, (pss_cons (ps_if (PW.pt (pw_or (pt_not (pt_val (pe_call G_isnumber (hr.mono (by omega)) (by rfl) D_isnumber.g D_isnumber.F.kp D_isnumber.b .nil pass0 (pa_cons (pv 1) pa_nil)))) (pw_or1 (pt_not (pt_chain op_le op_le (pv 2) (pv 1) (pv 3)))))) (pss_one (L2N.ps_raise rfl (L2N.takes_of rfl rfl rfl rfl) (pmkN X_BadNumber.oex X_BadNumber.ini X_BadNumber.fn GI_BadNumber (hr.mono (by omega)) BI_BadNumber pass0 (by rfl) X_BadNumber.g (pa_cons (pv 0) (pa_cons (pv 1) pa_nil))))) pss_nil)
      (pss_one (ps_ret (pv 1)))), ?_⟩
    walk_at "st"
    have bad : fitsB x lo hi = false → tMkO C (spIni2 C "what" "value") [] (tCons (tVar 0) (tCons (tVar 1) tNil)) [some (.str wh), some x, some (.int lo), some (.int hi)] H fun cls d H' => E cls d H' := fun hn => ⟨_, rfl, _, rfl, mk2 (h2 hn)⟩
    refine ⟨x, rfl, th, ?_⟩
    rcases th with ⟨k, rfl⟩ | rfl | ⟨n, rfl⟩
    · exact ⟨_, rfl, ite2 (fun _ => bad rfl) (fun e => absurd rfl e)⟩
    · exact ⟨_, rfl, ite2 (fun _ => bad rfl) (fun e => absurd rfl e)⟩
    · refine ⟨_, rfl, ite2 (fun e => by cases e) (fun e => ⟨n, rfl, ite2 (fun g1 => ⟨n, rfl, ite2 (fun g2 => bad ?_) (fun g2 => h1 ?_)⟩) (fun g1 => bad ?_)⟩)⟩
      · rw [fitsB_int, decide_eq_false g2, Bool.and_false]
      · rw [fitsB_int, decide_eq_true g1, decide_eq_true (Decidable.not_not.mp g2)]
        rfl
      · rw [fitsB_int, decide_eq_false g1, Bool.false_and]
theorem ok_checkbounds {C f f_cn : Addr} {fd fd_cn : FuncData} (D : Dn K mg "check_bounds" s_checkbounds ["own", "other", "shared", "most"] f fd) (D_checknumber : Dn K mg "check_number" s_checknumber ["what", "value", "least", "most"] f_cn fd_cn)
    (G_checknumber : FnOk P w K mg base (L2N.CX P w) 3 f_cn fd_cn ["what", "value", "least", "most"] (spCheckN C)) : FnOk P w K mg base (L2N.CX P w) 4 f fd ["own", "other", "shared", "most"] (spBounds C bfault) := by
  refine okN D.F sc_checkbounds (fun vs H Q E h => ?_) (fun cdv A outer s H vs Q E hr h => ?_)
  · obtain ⟨x, y, z, hi, rfl, _⟩ := h
    rfl
  · obtain ⟨x, y, z, hi, rfl, tx, ty, tz, h1, h2⟩ := h
    refine ⟨_, (pss_cons (ps_expr (pe_callS G_checknumber (hr.mono (by omega)) rfl D_checknumber.g D_checknumber.F.kp D_checknumber.b (fun σ => L2N.passAt (L2N.takes_of rfl rfl rfl rfl) σ) (pa_cons pe_str (pa_cons (pv 0) (pa_cons pe_int (pa_cons (pv 3) pa_nil))))))
      (pss_cons (ps_expr (pe_callS G_checknumber (hr.mono (by omega)) rfl D_checknumber.g D_checknumber.F.kp D_checknumber.b (fun σ => L2N.passAt (L2N.takes_of rfl rfl rfl rfl) σ) (pa_cons pe_str (pa_cons (pv 1) (pa_cons pe_int (pa_cons (pv 3) pa_nil))))))
      (pss_one (ps_expr (pe_callS G_checknumber (hr.mono (by omega)) rfl D_checknumber.g D_checknumber.F.kp D_checknumber.b (fun σ => L2N.passAt (L2N.takes_of rfl rfl rfl rfl) σ) (pa_cons pe_str (pa_cons (pv 2) (pa_cons pe_int (pa_cons (pv 3) pa_nil))))))))), ?_⟩
    walk_at "st"
    refine ⟨_, _, _, _, rfl, tx, fun f1 => ?_, fun f1 => h2 _ _ (by unfold bfault; rw [if_pos f1])⟩
    walk_at "st"
    refine ⟨_, _, _, _, rfl, ty, fun f2 => ?_, fun f2 => h2 _ _ (by unfold bfault; rw [if_neg (by rw [f1]; decide), if_pos f2])⟩
    walk_at "rt"
    refine ⟨_, _, _, _, rfl, tz, fun f3 => ?_, fun f3 => h2 _ _ (by unfold bfault; rw [if_neg (by rw [f1]; decide), if_neg (by rw [f2]; decide), if_pos f3])⟩
    exact h1 (by unfold bfault; rw [if_neg (by rw [f1]; decide), if_neg (by rw [f2]; decide), if_neg (by rw [f3]; decide)])
theorem ok_checkrace {C fI f f_cb : Addr} {fdI fd fd_cb : FuncData} (X_BadNumber : Exn K mg "BadNumber" C fI) (BI_BadNumber : Binds K fdI ["self", "what", "value"] []) (GI_BadNumber : FnOk P w K mg base CX0 1 fI fdI ["self", "what", "value"] (spIni2 C "what" "value"))
    (D : Dn K mg "check_race" s_checkrace ["own", "other", "shared", "most"] f fd) (D_checkbounds : Dn K mg "check_bounds" s_checkbounds ["own", "other", "shared", "most"] f_cb fd_cb)
    (G_checkbounds : FnOk P w K mg base (L2N.CX P w) 4 f_cb fd_cb ["own", "other", "shared", "most"] (spBounds C bfault)) : FnOk P w K mg base (L2N.CX P w) 5 f fd ["own", "other", "shared", "most"] (spBounds C fault) := by
  refine okN D.F sc_checkrace (fun vs H Q E h => ?_) (fun cdv A outer s H vs Q E hr h => ?_)
  · obtain ⟨x, y, z, hi, rfl, _⟩ := h
    rfl
  · obtain ⟨x, y, z, hi, rfl, tx, ty, tz, h1, h2⟩ := h
    refine ⟨_, (pss_cons (ps_expr (pe_callS G_checkbounds (hr.mono (by omega)) rfl D_checkbounds.g D_checkbounds.F.kp D_checkbounds.b (fun σ => L2N.passAt (L2N.takes_of rfl rfl rfl rfl) σ) (pa_cons (pv 0) (pa_cons (pv 1) (pa_cons (pv 2) (pa_cons (pv 3) pa_nil))))))
      (pss_cons (ps_if (pt_cmpR op_eq (pe_op op_add (pv 0) (pv 2)) pe_int (nomark _)) (pss_one (L2N.ps_raise rfl (L2N.takes_of rfl rfl rfl rfl) (pmkN X_BadNumber.oex X_BadNumber.ini X_BadNumber.fn GI_BadNumber (hr.mono (by omega)) BI_BadNumber pass0 (by rfl) X_BadNumber.g (pa_cons pe_str (pa_cons (pv 0) pa_nil))))) pss_nil)
      (pss_one (ps_if (pt_cmpR op_eq (pe_op op_add (pv 1) (pv 2)) pe_int (nomark _)) (pss_one (L2N.ps_raise rfl (L2N.takes_of rfl rfl rfl rfl) (pmkN X_BadNumber.oex X_BadNumber.ini X_BadNumber.fn GI_BadNumber (hr.mono (by omega)) BI_BadNumber pass0 (by rfl) X_BadNumber.g (pa_cons pe_str (pa_cons (pv 1) pa_nil))))) pss_nil)))), ?_⟩
    walk_at "st"
    refine ⟨_, _, _, _, rfl, tx, ty, tz, fun f1 => ?_, fun wh v e => h2 wh v (by unfold fault; rw [e])⟩
    have ef : fault x y z hi = zfault x y z := by
      unfold fault
      rw [f1]
    rw [ef] at h1 h2
    obtain ⟨a, b, c, rfl, rfl, rfl, _⟩ := bfault_none f1
    simp only [zfault] at h1 h2
    walk_at "st"
    refine ite2 (fun e => ⟨_, rfl, mk2 (h2 _ _ (by rw [if_pos e]))⟩) (fun e => ?_)
    walk_at "rt"
    refine ite2 (fun e2 => ⟨_, rfl, mk2 (h2 _ _ (by rw [if_neg e, if_pos e2]))⟩) (fun e2 => h1 (by rw [if_neg e, if_neg e2]))
end
end K01
namespace K01
open PySem PySem.Spec PyProof.Rows L2 TL HotExc
local macro_rules | `(tactic| walk_at "rd") => `(tactic| simp only [start1, wipe, isR, isBool, isInt, isStr, isLst, isTup, tAsg, gName, gSub, tVar, tC, tOp, tUn, tTest, tIfS, tRet, tRetN, tDrop, tB, tAnd, tOr, tNot, tAndV, tOrV, tNotV, tIf, tCB, tCons, tNil, tNext, tCall, tBM, tTup, tLst, rU, rInW, rNinW, Int.reduceNeg, tG, tG2, sP, tDisp, tPairs, tCallS, tCallSD, tCallT, StX.tStar, tCallK, tCallKS, rTupOf, tDrop, rI0, rI, rEq, rNe, scal, forR_eq, forR2_eq, forS_eq, forL_eq, lcT_eq, lcRT_eq, lcS_eq, rLenX, rLenS, rListOf, tRevL, rMulS, rRepL, rCatL, tPart, tNoPart, CwR.tReplC, rAllK, rInSg, rNinSg, sgn_inj, rAddS, rInSt, tChain, tM1, tM0, rSplitN, rJoinN, exists_eq, rIntI, rIntB, rIntS, rStrI, rAbs, rOrd, rMin, rMax, rIxL, rIxX, rSetL, rAppend, rIxS, rSlS, rSlL, tSl, List.map_cons, List.map_nil, List.replicate_succ, List.replicate_zero, List.length_cons, List.length_nil, Nat.reduceSub, Nat.reduceAdd, Nat.zero_add, Nat.sub_self, List.getElem?_cons_zero, List.getElem?_cons_succ, List.set_cons_zero, List.set_cons_succ, List.append_nil, List.nil_append, List.cons_append, Option.some.injEq, not_true_eq_false, reduceCtorEq, exists_eq_left', exists_eq_left, exists_eq', exists_and_left, exists_and_right, V.int.injEq, V.str.injEq, V.bl.injEq, V.ref.injEq, List.cons.injEq, and_true, true_and, and_assoc, decide_eq_true_eq, Bool.not_eq_true', decide_eq_false_iff_not, ite_true, ite_false, if_true, if_false, Bool.not_true, Bool.not_false, Bool.false_eq_true, eq_self_iff_true, reduceIte, ne_eq, Int.reduceEq, not_false_eq_true])
local macro_rules | `(tactic| walk_at "rt") => `(tactic| try walk_at "rd")
local macro_rules | `(tactic| walk_at "st") => `(tactic| (walk_at "rt"; refine r_seq ?_; walk_at "rt"))
local macro_rules | `(tactic| walk_at "hp") => `(tactic| first | assumption | exact upd_same | (rw [upd_ne (by assumption)]; walk_at "hp"))
local macro_rules | `(tactic| walk_at "ex1") => `(tactic| ((with_reducible refine Exists.intro ?w (And.intro ?hx ?_)); (case hx => first | exact sq_of (by walk_at "hp") | exact .inl (sq_of (by walk_at "hp")) | exact rfl | (show _ = some (HO.lst _); walk_at "hp"))))
local macro_rules | `(tactic| walk_at "ex") => `(tactic| repeat (first | walk_at "ex1" | walk_at "rd"))
abbrev s_badnumber : Stmt := topS 34
theorem sc_badnumber : FnScope ["store", "low", "high", "kind"] ["store", "low", "high"] (defScope s_badnumber) := ⟨rfl, rfl, rfl, by decide +kernel, rfl, by decide +kernel, by decide +kernel⟩
abbrev s_race : Stmt := topS 38
theorem sc_race : FnScope ["store", "high", "shared", "other", "own"] ["store", "high"] (defScope s_race) := ⟨rfl, rfl, rfl, by decide +kernel, rfl, by decide +kernel, by decide +kernel⟩
abbrev s_badrace : Stmt := topS 39
theorem sc_badrace : FnScope ["store", "high", "numbers", "kind"] ["store", "high"] (defScope s_badrace) := ⟨rfl, rfl, rfl, by decide +kernel, rfl, by decide +kernel, by decide +kernel⟩
/-- a drawn thing -/
def spThing : Sp := fun vs H Q _ => ∃ (a c : Addr) (lo hi : Int), vs = [.ref a, .int lo, .int hi] ∧ StoreAt H a c ∧ Drawn H a c Thing Q
def DrawnR (hi : Int) (H : Hp) (a c : Addr) (Q : VK) : Prop := ∀ t H' x y z, StoreAt H' a c → But a H H' → H' t = some (.tup [.int x, .int y, .int z]) → Race hi x y z → Q (.ref t) H'
def spRace : Sp := fun vs H Q _ => ∃ (a c : Addr) (hi : Int), vs = [.ref a, .int hi] ∧ StoreAt H a c ∧ 1 ≤ hi ∧ hi ≤ 1000000 ∧ DrawnR hi H a c Q
def spBadRace : Sp := fun vs H Q _ => ∃ (a c : Addr) (hi : Int), vs = [.ref a, .int hi] ∧ StoreAt H a c ∧ 1 ≤ hi ∧ hi ≤ 1000000 ∧
  ∀ t H' x y z, StoreAt H' a c → But a H H' → H' t = some (.tup [x, y, z]) → Thing x → Thing y → Thing z → Q (.ref t) H'
theorem th_int (n : Int) : Thing (.int n) := .inr (.inr ⟨n, rfl⟩)
section
variable {P : Program} {w : World} {K : PySem.W.Frag} {mg : Str → Option Value} {base : Heap}
theorem ok_badnumber {f f_take : Addr} {fd fd_take : FuncData} (B : Bi mg) (D : Dn K mg "_law_bad_number" s_badnumber ["store", "low", "high"] f fd) (D_take : Dn K mg "_law_take" s_take ["store", "many"] f_take fd_take)
    (G_take : FnOk P w K mg base CX0 2 f_take fd_take ["store", "many"] spTake) : FnOk P w K mg base CX0 3 f fd ["store", "low", "high"] spThing := by
  refine D.F.ok sc_badnumber (fun vs H Q E h => ?_) (fun cdv A outer s H vs Q E hr h => ?_)
  · obtain ⟨a, c, lo, hi, rfl, _⟩ := h
    rfl
  · obtain ⟨a, c, lo, hi, rfl, S, q⟩ := h
    refine ⟨_, (pss_cons (ps_set (i := 3) sc_badnumber.nd rfl (.inl rfl) (pe_call G_take (hr.mono (by omega)) (by rfl) D_take.g D_take.F.kp D_take.b .nil pass0 (pa_cons (pv 0) (pa_cons pe_int pa_nil))))
      (pss_cons (ps_if (pt_cmpR op_lt (pv 3) pe_int (nomark _)) (pss_one (ps_ret (pe_ix (ix_listK (K := K)) (pe_lst (pa_cons pe_bl (pa_cons pe_bl (pa_cons pe_non pa_nil)))) (pv 3) (fun _ _ => rfl)))) pss_nil)
      (pss_cons (ps_if (pt_cmpR op_eq (pv 3) pe_int (nomark _)) (pss_one (ps_ret (pe_op op_sub (pv 1) pe_int))) pss_nil)
      (pss_cons (ps_if (pt_cmpR op_eq (pv 3) pe_int (nomark _)) (pss_one (ps_ret (pe_op op_add (pv 2) pe_int))) pss_nil)
      (pss_cons (ps_if (pt_cmpR op_eq (pv 3) pe_int (nomark _)) (pss_one (ps_ret (pe_op op_sub (pe_op op_pow pe_int pe_int) pe_int))) pss_nil)
      (pss_cons (ps_if (pt_cmpR op_eq (pv 3) pe_int (nomark _)) (pss_one (ps_ret (pe_op op_sub pe_int (pe_op op_pow pe_int pe_int)))) pss_nil)
      (pss_cons (ps_if (pt_cmpR op_eq (pv 3) pe_int (nomark _)) (pss_one (ps_ret (pe_op op_sub (pe_op op_sub (pv 1) pe_int) (pe_call G_take (hr.mono (by omega)) (by rfl) D_take.g D_take.F.kp D_take.b .nil pass0 (pa_cons (pv 0) (pa_cons (pe_op op_pow pe_int pe_int) pa_nil)))))) pss_nil)
      (pss_one (ps_ret (pe_op op_add (pe_op op_add (pv 2) pe_int) (pe_call G_take (hr.mono (by omega)) (by rfl) D_take.g D_take.F.kp D_take.b .nil pass0 (pa_cons (pv 0) (pa_cons (pe_op op_pow pe_int pe_int) pa_nil))))))))))))), ?_⟩
    have cp : ∀ n : Nat, n ≤ 20 → CPow 10 n := fun n hn => ⟨by omega, by omega, by decide⟩
    have e18 : (10 : Int) ^ Int.toNat 18 = 10 ^ 18 := rfl
    walk_at "st"
    refine ⟨a, c, _, rfl, S, by decide, fun v H1 S1 b1 ⟨kd, e, k0, k1⟩ => ?_⟩
    subst e
    walk_at "st"
    refine ite2 (fun hk => ?_) (fun _ => ?_)
    · have hk3 : kd = 0 ∨ kd = 1 ∨ kd = 2 := by omega
      refine ⟨by decide, fun p np => ⟨_, sq_of upd_same, ?_⟩⟩
      have fin : ∀ v, Thing v → Q v (L2.upd H1 p (.lst [.bl true, .bl false, .non])) := fun v t => q _ _ (S1.new np) (b1.trans (But.new np)) t
      rcases hk3 with rfl | rfl | rfl
      · exact ⟨_, rfl, fin _ (.inl ⟨_, rfl⟩)⟩
      · exact ⟨_, rfl, fin _ (.inl ⟨_, rfl⟩)⟩
      · exact ⟨_, rfl, fin _ (.inr (.inl rfl))⟩
    walk_at "st"
    refine ite2 (fun hk => q _ _ S1 b1 (th_int _)) (fun _ => ?_)
    walk_at "st"
    refine ite2 (fun hk => q _ _ S1 b1 (th_int _)) (fun _ => ?_)
    walk_at "st"
    refine ite2 (fun hk => ⟨cp 20 (by decide), q _ _ S1 b1 (th_int _)⟩) (fun _ => ?_)
    walk_at "st"
    refine ite2 (fun hk => ⟨cp 20 (by decide), q _ _ S1 b1 (th_int _)⟩) (fun _ => ?_)
    walk_at "st"
    refine ite2 (fun hk => ?_) (fun _ => ?_)
    · refine ⟨cp 18 (by decide), a, c, _, rfl, S1, by rw [e18]; decide, fun v H2 S2 b2 ⟨r, e, r0, r1⟩ => ?_⟩
      subst e
      walk_at "rt"
      exact q _ _ S2 (b1.trans b2) (th_int _)
    · walk_at "rt"
      refine ⟨cp 18 (by decide), a, c, _, rfl, S1, by rw [e18]; decide, fun v H2 S2 b2 ⟨r, e, r0, r1⟩ => ?_⟩
      subst e
      walk_at "rt"
      exact q _ _ S2 (b1.trans b2) (th_int _)
theorem ok_race {f f_take f_pick f_chance f_number : Addr} {fd fd_take fd_pick fd_chance fd_number : FuncData} (B : Bi mg) (D : Dn K mg "_law_race" s_race ["store", "high"] f fd) (D_take : Dn K mg "_law_take" s_take ["store", "many"] f_take fd_take) (D_pick : Dn K mg "_law_pick" s_pick ["store", "row"] f_pick fd_pick)
    (D_chance : Dn K mg "_law_chance" s_chance ["store", "many"] f_chance fd_chance) (D_number : Dn K mg "_law_number" s_number ["store", "low", "high"] f_number fd_number)
    (G_take : FnOk P w K mg base CX0 2 f_take fd_take ["store", "many"] spTake) (G_pickL : FnOk P w K mg base CX0 3 f_pick fd_pick ["store", "row"] spPickL) (G_chance : FnOk P w K mg base CX0 3 f_chance fd_chance ["store", "many"] spChance)
    (G_number : FnOk P w K mg base CX0 4 f_number fd_number ["store", "low", "high"] spRange) : FnOk P w K mg base CX0 5 f fd ["store", "high"] spRace := by
  refine D.F.ok sc_race (fun vs H Q E h => ?_) (fun cdv A outer s H vs Q E hr h => ?_)
  · obtain ⟨a, c, hi, rfl, _⟩ := h
    rfl
  · obtain ⟨a, c, hi, rfl, S, h1, h2, q⟩ := h
    refine ⟨_, (pss_cons (ps_set (i := 2) sc_race.nd rfl (.inl rfl) (pe_call G_number (hr.mono (by omega)) (by rfl) D_number.g D_number.F.kp D_number.b .nil pass0 (pa_cons (pv 0) (pa_cons pe_int (pa_cons (pv 1) pa_nil)))))
      (C8.pss_cut (ps_if (pt_val (pe_call G_chance (hr.mono (by omega)) (by rfl) D_chance.g D_chance.F.kp D_chance.b .nil pass0 (pa_cons (pv 0) (pa_cons pe_int pa_nil)))) (pss_one (ps_set (i := 2) sc_race.nd rfl (.inl rfl) (pe_call G_take (hr.mono (by omega)) (by rfl) D_take.g D_take.F.kp D_take.b .nil pass0 (pa_cons (pv 0) (pa_cons (pe_op op_add (pe_callB (call_minI rfl) (by rfl) B.min (by decide +kernel) (pa_cons (pv 1) (pa_cons pe_int pa_nil))) pe_int) pa_nil))))) pss_nil)
      (pss_cons (ps_set (i := 3) sc_race.nd rfl (.inl rfl) (pe_call G_number (hr.mono (by omega)) (by rfl) D_number.g D_number.F.kp D_number.b .nil pass0 (pa_cons (pv 0) (pa_cons pe_int (pa_cons (pv 1) pa_nil)))))
      (pss_cons (ps_set (i := 4) sc_race.nd rfl (.inl rfl) (pe_call G_number (hr.mono (by omega)) (by rfl) D_number.g D_number.F.kp D_number.b .nil pass0 (pa_cons (pv 0) (pa_cons pe_int (pa_cons (pv 1) pa_nil)))))
      (C8.pss_cut (ps_if (pt_val (pe_call G_chance (hr.mono (by omega)) (by rfl) D_chance.g D_chance.F.kp D_chance.b .nil pass0 (pa_cons (pv 0) (pa_cons pe_int pa_nil)))) (pss_cons (ps_set (i := 3) sc_race.nd rfl (.inl rfl) (pe_call G_take (hr.mono (by omega)) (by rfl) D_take.g D_take.F.kp D_take.b .nil pass0 (pa_cons (pv 0) (pa_cons (pe_op op_add (pv 1) pe_int) pa_nil))))
      (pss_cons (ps_set (i := 4) sc_race.nd rfl (.inl rfl) (pe_op op_add (pv 3) (pe_call G_pickL (hr.mono (by omega)) (by rfl) D_pick.g D_pick.F.kp D_pick.b .nil pass0 (pa_cons (pv 0) (pa_cons (pe_lst (pa_cons (pe_op op_sub (pv 2) pe_int) (pa_cons (pe_op op_sub (pv 2) pe_int) (pa_cons (pv 2) (pa_cons (pe_op op_sub pe_int (pv 2)) (pa_cons (pe_un un_neg (pv 2)) (pa_cons (pe_op op_sub (pe_un un_neg pe_int) (pv 2)) (pa_cons pe_int (pa_cons pe_int (pa_cons (pe_un un_neg pe_int) pa_nil)))))))))) pa_nil)))))
      (pss_one (ps_set (i := 4) sc_race.nd rfl (.inl rfl) (pe_callB (call_maxI rfl) (by rfl) B.max (by decide +kernel) (pa_cons pe_int (pa_cons (pe_callB (call_minI rfl) (by rfl) B.min (by decide +kernel) (pa_cons (pv 1) (pa_cons (pv 4) pa_nil))) pa_nil))))))) pss_nil)
      (pss_cons (ps_if (pt_cmpR op_eq (pv 2) pe_int (nomark _)) (pss_one (ps_ret (pe_tup (pa_cons (pe_callB (call_maxI rfl) (by rfl) B.max (by decide +kernel) (pa_cons pe_int (pa_cons (pv 4) pa_nil))) (pa_cons (pe_callB (call_maxI rfl) (by rfl) B.max (by decide +kernel) (pa_cons pe_int (pa_cons (pv 3) pa_nil))) (pa_cons pe_int pa_nil)))))) pss_nil)
      (pss_one (ps_ret (pe_tup (pa_cons (pv 4) (pa_cons (pv 3) (pa_cons (pv 2) pa_nil)))))))))))), ?_⟩
    walk_at "st"
    refine ⟨a, c, 0, hi, rfl, S, by omega, by omega, fun v H1 S1 b1 ⟨sh, e, s0, s1⟩ => ?_⟩
    subst e
    walk_at "rt"
    refine r_cut (fun σ H' => (∃ sh : Int, σ = [some (.ref a), some (.int hi), some (.int sh), none, none] ∧ 0 ≤ sh ∧ sh ≤ hi) ∧ StoreAt H' a c ∧ But a H H') (fun N k => ?_) ?_
    · walk_at "rt"
      refine ⟨a, c, _, rfl, S1, by decide, fun v H2 S2 b2 ⟨t, e⟩ => ?_⟩
      subst e
      walk_at "rt"
      refine ite2 (fun _ => ?_) (fun _ => k _ _ ⟨⟨sh, rfl, s0, s1⟩, S2, b1.trans b2⟩)
      refine ⟨a, c, _, rfl, S2, by split <;> omega, fun v H3 S3 b3 ⟨t, e, t0, t1⟩ => ?_⟩
      subst e
      walk_at "rt"
      refine k _ _ ⟨⟨t, rfl, t0, ?_⟩, S3, (b1.trans b2).trans b3⟩
      split at t1 <;> omega
    rintro σ H2 ⟨⟨sh, rfl, s0, s1⟩, S2, b2⟩
    walk_at "st"
    refine ⟨a, c, 0, hi, rfl, S2, by omega, by omega, fun v H3 S3 b3 ⟨ot, e, o0, o1⟩ => ?_⟩
    subst e
    walk_at "st"
    refine ⟨a, c, 0, hi, rfl, S3, by omega, by omega, fun v H4 S4 b4 ⟨ow, e, w0, w1⟩ => ?_⟩
    subst e
    have b04 := (b2.trans b3).trans b4
    walk_at "rt"
    refine r_cut (fun σ H' => (∃ ow ot : Int, σ = [some (.ref a), some (.int hi), some (.int sh), some (.int ot), some (.int ow)] ∧ 0 ≤ ow ∧ ow ≤ hi ∧ 0 ≤ ot ∧ ot ≤ hi) ∧ StoreAt H' a c ∧ But a H H') (fun N k => ?_) ?_
    · walk_at "rt"
      refine ⟨a, c, _, rfl, S4, by decide, fun v H5 S5 b5 ⟨t, e⟩ => ?_⟩
      subst e
      walk_at "rt"
      refine ite2 (fun _ => ?_) (fun _ => k _ _ ⟨⟨ow, ot, rfl, w0, w1, o0, o1⟩, S5, b04.trans b5⟩)
      walk_at "st"
      refine ⟨a, c, _, rfl, S5, by omega, fun v H6 S6 b6 ⟨t, e, t0, t1⟩ => ?_⟩
      subst e
      walk_at "st"
      refine ⟨by decide, fun p np => ?_⟩
      have Sp := S6.new (o := .lst [.int (sh - 2), .int (sh - 1), .int sh, .int (1 - sh), .int (-sh), .int (-1 - sh), .int 0, .int 1, .int (-1)]) np
      refine ⟨a, c, p, _, rfl, Sp, upd_same, S6.ne1 np, by simp, Nat.le_of_ble_eq_true rfl, fun v H7 S7 b7 hv => ?_⟩
      have hv : ∃ i, v = .int i := by
        simp only [List.mem_cons, List.not_mem_nil, or_false] at hv
        rcases hv with h | h | h | h | h | h | h | h | h <;> exact ⟨_, h⟩
      obtain ⟨i, rfl⟩ := hv
      walk_at "rt"
      refine k _ _ ⟨⟨_, t, rfl, ?_, ?_, t0, by omega⟩, S7, ((b04.trans b5).trans b6).trans ((But.new np).trans b7)⟩
      · split <;> omega
      · split <;> (try split) <;> omega
    rintro σ H5 ⟨⟨ow, ot, rfl, w0, w1, o0, o1⟩, S5, b5⟩
    walk_at "st"
    refine ite2 (fun e => ⟨by decide, fun p np => ?_⟩) (fun e => ?_)
    · refine q p _ _ _ _ (S5.new np) (b5.trans (But.new np)) upd_same ⟨?_, ?_, ?_, ?_, by omega, by omega, ?_, ?_⟩ <;> (split <;> omega)
    · walk_at "rt"
      exact ⟨by decide, fun p np => q p _ _ _ _ (S5.new np) (b5.trans (But.new np)) upd_same ⟨w0, w1, o0, o1, s0, s1, by omega, by omega⟩⟩
theorem set3 {x y z v : V} {r : Int} (h0 : 0 ≤ r) (h3 : r < 3 ∨ r = 0) (tx : Thing x) (ty : Thing y) (tz : Thing z) (tv : Thing v) : ∃ j x' y' z', ixN [x, y, z].length r = some j ∧ [x, y, z].set j v = [x', y', z'] ∧ Thing x' ∧ Thing y' ∧ Thing z' := by
  have h : r = 0 ∨ r = 1 ∨ r = 2 := by omega
  rcases h with rfl | rfl | rfl
  · exact ⟨0, v, y, z, rfl, rfl, tv, ty, tz⟩
  · exact ⟨1, x, v, z, rfl, rfl, tx, tv, tz⟩
  · exact ⟨2, x, y, v, rfl, rfl, tx, ty, tv⟩
/-- a row of three things at l, and the store -/
def Three (a c l : Addr) (kd hi : Int) (H : Hp) (σ : L2.St) (H' : Hp) : Prop := σ = [some (.ref a), some (.int hi), some (.ref l), some (.int kd)] ∧ StoreAt H' a c ∧ But a H H' ∧ ∃ x y z, H' l = some (.lst [x, y, z]) ∧ Thing x ∧ Thing y ∧ Thing z
theorem Three.set {a c l : Addr} {kd hi : Int} {H H1 : Hp} {x y z : V} (S : StoreAt H1 a c) (b : But a H H1) (nl : l ≠ a) (nc : l ≠ c) (ho : H l = none) (tx : Thing x) (ty : Thing y) (tz : Thing z) :
    Three a c l kd hi H [some (.ref a), some (.int hi), some (.ref l), some (.int kd)] (L2.upd H1 l (.lst [x, y, z])) :=
  ⟨rfl, S.put nl nc, b.putNew ho, x, y, z, upd_same, tx, ty, tz⟩
theorem ok_badrace {f f_race f_take f_badnumber f_chance : Addr} {fd fd_race fd_take fd_badnumber fd_chance : FuncData} (B : Bi mg) (D : Dn K mg "_law_bad_race" s_badrace ["store", "high"] f fd) (D_race : Dn K mg "_law_race" s_race ["store", "high"] f_race fd_race) (D_take : Dn K mg "_law_take" s_take ["store", "many"] f_take fd_take)
    (D_badnumber : Dn K mg "_law_bad_number" s_badnumber ["store", "low", "high"] f_badnumber fd_badnumber) (D_chance : Dn K mg "_law_chance" s_chance ["store", "many"] f_chance fd_chance)
    (G_race : FnOk P w K mg base CX0 5 f_race fd_race ["store", "high"] spRace) (G_take : FnOk P w K mg base CX0 2 f_take fd_take ["store", "many"] spTake)
    (G_badnumber : FnOk P w K mg base CX0 3 f_badnumber fd_badnumber ["store", "low", "high"] spThing) (G_chance : FnOk P w K mg base CX0 3 f_chance fd_chance ["store", "many"] spChance) : FnOk P w K mg base CX0 6 f fd ["store", "high"] spBadRace := by
  refine D.F.ok sc_badrace (fun vs H Q E h => ?_) (fun cdv A outer s H vs Q E hr h => ?_)
  · obtain ⟨a, c, hi, rfl, _⟩ := h
    rfl
  · obtain ⟨a, c, hi, rfl, S, h1, h2, q⟩ := h
    refine ⟨_, (pss_cons (ps_set (i := 2) sc_badrace.nd rfl (.inl rfl) (pe_callTy (call_listK (K := K)) (by rfl) B.list_ (by decide +kernel) (pa_cons (pe_call G_race (hr.mono (by omega)) (by rfl) D_race.g D_race.F.kp D_race.b .nil pass0 (pa_cons (pv 0) (pa_cons (pv 1) pa_nil))) pa_nil)))
      (pss_cons (ps_set (i := 3) sc_badrace.nd rfl (.inl rfl) (pe_call G_take (hr.mono (by omega)) (by rfl) D_take.g D_take.F.kp D_take.b .nil pass0 (pa_cons (pv 0) (pa_cons pe_int pa_nil))))
      (C8.pss_cut (ps_if (PW.pt (pw_or (pt_cmpR op_eq (pv 3) pe_int (nomark _)) (pw_or1 (pt_cmpR op_eq (pv 3) pe_int (nomark _))))) (pss_cons (ps_asg pe_int (pg_sub (pv 2) pe_int set_list (fun _ => rfl)))
      (pss_one (ps_asg pe_int (pg_sub (pv 2) pe_int set_list (fun _ => rfl))))) pss_nil)
      (C8.pss_cut (ps_if (PW.pt (pw_or (pt_cmpR op_eq (pv 3) pe_int (nomark _)) (pw_or1 (pt_cmpR op_eq (pv 3) pe_int (nomark _))))) (pss_cons (ps_asg pe_int (pg_sub (pv 2) pe_int set_list (fun _ => rfl)))
      (pss_one (ps_asg pe_int (pg_sub (pv 2) pe_int set_list (fun _ => rfl))))) pss_nil)
      (C8.pss_cut (ps_if (PW.pt (pw_or (pt_cmpR op_gt (pv 3) pe_int (nomark _)) (pw_or1 (PW.pt (pw_and (pt_cmpR op_eq (pv 3) pe_int (nomark _)) (pw_and1 (pt_val (pe_call G_chance (hr.mono (by omega)) (by rfl) D_chance.g D_chance.F.kp D_chance.b .nil pass0 (pa_cons (pv 0) (pa_cons pe_int pa_nil)))))))))) (pss_one (ps_asg (pe_call G_badnumber (hr.mono (by omega)) (by rfl) D_badnumber.g D_badnumber.F.kp D_badnumber.b .nil pass0 (pa_cons (pv 0) (pa_cons pe_int (pa_cons (pv 1) pa_nil)))) (pg_sub (pv 2) (pe_call G_take (hr.mono (by omega)) (by rfl) D_take.g D_take.F.kp D_take.b .nil pass0 (pa_cons (pv 0) (pa_cons pe_int pa_nil))) set_list (fun _ => rfl)))) pss_nil)
      (C8.pss_cut (ps_if (pt_cmpR op_eq (pv 3) pe_int (nomark _)) (pss_one (ps_asg (pe_call G_badnumber (hr.mono (by omega)) (by rfl) D_badnumber.g D_badnumber.F.kp D_badnumber.b .nil pass0 (pa_cons (pv 0) (pa_cons pe_int (pa_cons (pv 1) pa_nil)))) (pg_sub (pv 2) (pe_call G_take (hr.mono (by omega)) (by rfl) D_take.g D_take.F.kp D_take.b .nil pass0 (pa_cons (pv 0) (pa_cons pe_int pa_nil))) set_list (fun _ => rfl)))) pss_nil)
      (pss_one (ps_ret (pe_callTy (call_tupK (K := K)) (by rfl) B.tuple_ (by decide +kernel) (pa_cons (pv 2) pa_nil)))))))))), ?_⟩
    walk_at "st"
    refine ⟨a, c, hi, rfl, S, h1, h2, fun t H1 x y z S1 b1 ht R => ?_⟩
    walk_at "rt"
    refine ⟨_, .inr (.inl (.inl ht)), fun l nl => ?_⟩
    have nla := S1.ne1 nl
    have nlc := S1.ne2 nl
    have hl0 : H l = none := b1.free S1 nl
    have S2 := S1.new (o := .lst [.int x, .int y, .int z]) nl
    have b2 := b1.trans (But.new (a := a) (o := .lst [.int x, .int y, .int z]) nl)
    refine r_seq ?_
    walk_at "rt"
    refine ⟨a, c, _, rfl, S2, by decide, fun v H3 S3 b3 ⟨kd, e, k0, k1⟩ => ?_⟩
    subst e
    have i3 : Three a c l kd hi H [some (.ref a), some (.int hi), some (.ref l), some (.int kd)] H3 := ⟨rfl, S3, b2.trans b3, _, _, _, b3 _ _ nla upd_same, th_int _, th_int _, th_int _⟩
    clear b3 S3 S2 b2 ht S1 b1 nl
    walk_at "rt"
    refine r_cut (Three a c l kd hi H) (fun N k => ?_) ?_
    · obtain ⟨_, S4, b4, u, v, w', h4, t1, t2, t3⟩ := i3
      have both : N [some (V.ref a), some (V.int hi), some (V.ref l), some (V.int kd)] (L2.upd (L2.upd H3 l (.lst [.int 0, v, w'])) l (.lst [.int 0, v, .int 0])) := k _ _ (Three.set (S4.put nla nlc) (b4.putNew hl0) nla nlc hl0 (th_int _) t2 (th_int _))
      walk_at "rt"
      refine ite2 (fun _ => ?_) (fun _ => ite2 (fun _ => ?_) (fun _ => k _ _ ⟨rfl, S4, b4, u, v, w', h4, t1, t2, t3⟩))
      · walk_at "st"
        walk_at "ex"
        exact both
      · walk_at "st"
        walk_at "ex"
        exact both
    rintro σ H4 ⟨rfl, S4, b4, u, v, w', h4, t1, t2, t3⟩
    refine r_cut (Three a c l kd hi H) (fun N k => ?_) ?_
    · have both : N [some (V.ref a), some (V.int hi), some (V.ref l), some (V.int kd)] (L2.upd (L2.upd H4 l (.lst [u, .int 0, w'])) l (.lst [u, .int 0, .int 0])) := k _ _ (Three.set (S4.put nla nlc) (b4.putNew hl0) nla nlc hl0 t1 (th_int _) (th_int _))
      walk_at "rt"
      refine ite2 (fun _ => ?_) (fun _ => ite2 (fun _ => ?_) (fun _ => k _ _ ⟨rfl, S4, b4, u, v, w', h4, t1, t2, t3⟩))
      · walk_at "st"
        walk_at "ex"
        exact both
      · walk_at "st"
        walk_at "ex"
        exact both
    clear S4 b4 h4 t1 t2 t3 i3
    rintro σ H5 ⟨rfl, S4, b4, u, v, w', h4, t1, t2, t3⟩
    refine r_cut (Three a c l kd hi H) (fun N k => ?_) ?_
    · walk_at "rt"
      have put : ∀ {H6 : Hp}, StoreAt H6 a c → But a H5 H6 → spThing [.ref a, .int 0, .int hi] H6 (fun x H1 => spTake [.ref a, .int 3] H1 (fun i H2 => ∃ xs r, i = .int r ∧ H2 l = some (.lst xs) ∧ ∃ j, ixN xs.length r = some j ∧ N [some (.ref a), some (.int hi), some (.ref l), some (.int kd)] (L2.upd H2 l (.lst (xs.set j x)))) E0) E0 := by
        intro H6 S6 b6
        refine ⟨a, c, _, _, rfl, S6, fun v1 H7 S7 b7 tv => ⟨a, c, _, rfl, S7, by decide, fun y H8 S8 b8 ⟨r, e, r0, r1⟩ => ⟨_, r, e, b8 _ _ nla (b7 _ _ nla (b6 _ _ nla h4)), ?_⟩⟩⟩
        obtain ⟨j, x', y', z', e1, e2, t1, t2, t3⟩ := set3 r0 r1 t1 t2 t3 tv
        refine ⟨j, e1, ?_⟩
        rw [e2]
        exact k _ _ (Three.set S8 (((b4.trans b6).trans b7).trans b8) nla nlc hl0 t1 t2 t3)
      refine ite2 (fun _ => put S4 (But.refl _ _)) (fun _ => ite2 (fun _ => ⟨a, c, _, rfl, S4, by decide, fun vv H6 S6 b6 ⟨t, e⟩ => ⟨t, e, ite2 (fun _ => put S6 b6) (fun _ => k _ _ ⟨rfl, S6, b4.trans b6, u, v, w', b6 _ _ nla h4, t1, t2, t3⟩)⟩⟩) (fun _ => k _ _ ⟨rfl, S4, b4, u, v, w', h4, t1, t2, t3⟩))
    clear S4 b4 h4 t1 t2 t3
    rintro σ H5 ⟨rfl, S4, b4, u, v, w', h4, t1, t2, t3⟩
    refine r_cut (Three a c l kd hi H) (fun N k => ?_) ?_
    · walk_at "rt"
      have put : ∀ {H6 : Hp}, StoreAt H6 a c → But a H5 H6 → spThing [.ref a, .int 0, .int hi] H6 (fun x H1 => spTake [.ref a, .int 3] H1 (fun i H2 => ∃ xs r, i = .int r ∧ H2 l = some (.lst xs) ∧ ∃ j, ixN xs.length r = some j ∧ N [some (.ref a), some (.int hi), some (.ref l), some (.int kd)] (L2.upd H2 l (.lst (xs.set j x)))) E0) E0 := by
        intro H6 S6 b6
        refine ⟨a, c, _, _, rfl, S6, fun v1 H7 S7 b7 tv => ⟨a, c, _, rfl, S7, by decide, fun y H8 S8 b8 ⟨r, e, r0, r1⟩ => ⟨_, r, e, b8 _ _ nla (b7 _ _ nla (b6 _ _ nla h4)), ?_⟩⟩⟩
        obtain ⟨j, x', y', z', e1, e2, t1, t2, t3⟩ := set3 r0 r1 t1 t2 t3 tv
        refine ⟨j, e1, ?_⟩
        rw [e2]
        exact k _ _ (Three.set S8 (((b4.trans b6).trans b7).trans b8) nla nlc hl0 t1 t2 t3)
      exact ite2 (fun _ => put S4 (But.refl _ _)) (fun _ => k _ _ ⟨rfl, S4, b4, u, v, w', h4, t1, t2, t3⟩)
    clear S4 b4 h4 t1 t2 t3
    rintro σ H6 ⟨rfl, S4, b4, u, v, w', h4, t1, t2, t3⟩
    walk_at "rt"
    exact ⟨_, sq_of h4, fun t nt => q t _ _ _ _ (S4.new nt) (b4.trans (But.new nt)) upd_same t1 t2 t3⟩
end
end K01
namespace K01
open PySem PySem.Spec PyProof.Rows L2 TL HotExc
local macro_rules | `(tactic| walk_at "rd") => `(tactic| simp only [start1, wipe, isR, isBool, isInt, isStr, isLst, isTup, tAsg, gName, gSub, tVar, tC, tOp, tUn, tTest, tIfS, tRet, tRetN, tDrop, tB, tAnd, tOr, tNot, tAndV, tOrV, tNotV, tIf, tCB, tCons, tNil, tNext, tCall, tBM, tTup, tLst, rU, rInW, rNinW, Int.reduceNeg, tG, tG2, sP, tDisp, tPairs, tCallS, tCallSD, tCallT, StX.tStar, tCallK, tCallKS, rTupOf, tDrop, rI0, rI, rEq, rNe, scal, forR_eq, forR2_eq, forS_eq, forL_eq, lcT_eq, lcRT_eq, lcS_eq, rLenX, rLenS, rListOf, tRevL, rMulS, rRepL, rCatL, tPart, tNoPart, CwR.tReplC, rAllK, rInSg, rNinSg, sgn_inj, rAddS, rInSt, tChain, tM1, tM0, rSplitN, rJoinN, exists_eq, rIntI, rIntB, rIntS, rStrI, rAbs, rOrd, rMin, rMax, rIxL, rIxX, rSetL, rAppend, rIxS, rSlS, rSlL, tSl, List.map_cons, List.map_nil, List.replicate_succ, List.replicate_zero, List.length_cons, List.length_nil, Nat.reduceSub, Nat.reduceAdd, Nat.zero_add, Nat.sub_self, List.getElem?_cons_zero, List.getElem?_cons_succ, List.set_cons_zero, List.set_cons_succ, List.append_nil, List.nil_append, List.cons_append, Option.some.injEq, not_true_eq_false, reduceCtorEq, exists_eq_left', exists_eq_left, exists_eq', exists_and_left, exists_and_right, V.int.injEq, V.str.injEq, V.bl.injEq, V.ref.injEq, List.cons.injEq, and_true, true_and, and_assoc, decide_eq_true_eq, Bool.not_eq_true', decide_eq_false_iff_not, ite_true, ite_false, if_true, if_false, Bool.not_true, Bool.not_false, Bool.false_eq_true, eq_self_iff_true, reduceIte, ne_eq, Int.reduceEq, not_false_eq_true])
local macro_rules | `(tactic| walk_at "rt") => `(tactic| try walk_at "rd")
local macro_rules | `(tactic| walk_at "st") => `(tactic| (walk_at "rt"; refine r_seq ?_; walk_at "rt"))
local macro_rules | `(tactic| walk_at "hp") => `(tactic| first | assumption | exact upd_same | (rw [upd_ne (by assumption)]; walk_at "hp"))
local macro_rules | `(tactic| walk_at "ex1") => `(tactic| ((with_reducible refine Exists.intro ?w (And.intro ?hx ?_)); (case hx => first | exact sq_of (by walk_at "hp") | exact .inl (sq_of (by walk_at "hp")) | exact rfl | (show _ = some (HO.lst _); walk_at "hp"))))
local macro_rules | `(tactic| walk_at "ex") => `(tactic| repeat (first | walk_at "ex1" | walk_at "rd"))
abbrev s_Lisnumber : Stmt := topS 40
theorem sc_Lisnumber : FnScope ["thing", "low", "high"] ["thing", "low", "high"] (defScope s_Lisnumber) := ⟨rfl, rfl, rfl, by decide +kernel, rfl, by decide +kernel, by decide +kernel⟩
abbrev s_racedue : Stmt := topS 41
theorem sc_racedue : FnScope ["own", "other", "shared", "high"] ["own", "other", "shared", "high"] (defScope s_racedue) := ⟨rfl, rfl, rfl, by decide +kernel, rfl, by decide +kernel, by decide +kernel⟩
def spFits : Sp := fun vs H Q _ => ∃ x lo hi, vs = [x, .int lo, .int hi] ∧ Thing x ∧ Q (.bl (fitsB x lo hi)) H
def spDue : Sp := fun vs H Q _ => ∃ x y z hi, vs = [x, y, z, .int hi] ∧ Thing x ∧ Thing y ∧ Thing z ∧ (fault x y z hi = none → Q .non H) ∧
  (∀ wh v, fault x y z hi = some (wh, v) → ∀ u H', Keeps H H' → H' u = some (.tup [.str wh, v]) → Q (.ref u) H')
theorem thing_dat {x : V} (t : Thing x) : ∃ X : Dat, (∀ H A, At H A X x) ∧ X.dep = 0 := by
  rcases t with ⟨k, rfl⟩ | rfl | ⟨n, rfl⟩
  · exact ⟨.bl k, fun _ _ => rfl, rfl⟩
  · exact ⟨.non, fun _ _ => rfl, rfl⟩
  · exact ⟨.int n, fun _ _ => rfl, rfl⟩
theorem bfault_of {x y z : V} {hi : Int} {wh : Str} {v : V} (h : bfault x y z hi = some (wh, v)) : v = x ∨ v = y ∨ v = z := by
  unfold bfault at h
  split at h
  · cases h; exact .inl rfl
  · split at h
    · cases h; exact .inr (.inl rfl)
    · split at h
      · cases h; exact .inr (.inr rfl)
      · cases h
theorem zfault_of {x y z : V} {wh : Str} {v : V} (h : zfault x y z = some (wh, v)) : v = x ∨ v = y ∨ v = z := by
  unfold zfault at h
  split at h
  · split at h
    · cases h; exact .inl rfl
    · split at h
      · cases h; exact .inr (.inl rfl)
      · cases h
  · cases h
theorem fault_thing {x y z : V} {hi : Int} {wh : Str} {v : V} (h : fault x y z hi = some (wh, v)) (tx : Thing x) (ty : Thing y) (tz : Thing z) : Thing v := by
  unfold fault at h
  have : v = x ∨ v = y ∨ v = z := by
    cases e : bfault x y z hi with
    | some p => rw [e] at h; cases h; exact bfault_of e
    | none => rw [e] at h; exact zfault_of h
  rcases this with rfl | rfl | rfl <;> assumption
section
variable {P : Program} {w : World} {K : PySem.W.Frag} {mg : Str → Option Value} {base : Heap}
theorem ok_Lisnumber {f : Addr} {fd : FuncData} (B : Bi mg) (D : Dn K mg "_law_is_number" s_Lisnumber ["thing", "low", "high"] f fd) : FnOk P w K mg base CX0 1 f fd ["thing", "low", "high"] spFits := by
  refine D.F.ok sc_Lisnumber (fun vs H Q E h => ?_) (fun cdv A outer s H vs Q E hr h => ?_)
  · obtain ⟨x, lo, hi, rfl, _⟩ := h
    rfl
  · obtain ⟨x, lo, hi, rfl, t, q⟩ := h
    refine ⟨_, (pss_one (ps_ret (pe_and (pe_cmpR op_notN (pv 0) pe_non (nomark _)) (pe_and (pe_not (pe_callB call_is_bool (by rfl) B.isinstance (by decide +kernel) (pa_cons (pv 0) (pa_cons (pe_bltn (v := .ty "bool") (by rfl) B.bool_ (by decide +kernel) rfl) pa_nil)))) (pe_and (pe_callB call_is_int (by rfl) B.isinstance (by decide +kernel) (pa_cons (pv 0) (pa_cons (pe_bltn (v := .ty "int") (by rfl) B.int_ (by decide +kernel) rfl) pa_nil))) (pe_one (pe_chain op_le op_le (pv 1) (pv 0) (pv 2)))))))), ?_⟩
    rcases t with ⟨k, rfl⟩ | rfl | ⟨n, rfl⟩
    · walk_at "rt"
      refine ⟨fun _ => True, .bl k, rfl, ?_⟩
      walk_at "rt"
      exact q
    · walk_at "rt"
      exact q
    · walk_at "rt"
      refine ⟨fun _ => True, .int n, rfl, ?_⟩
      walk_at "rt"
      refine ⟨fun _ => True, .int n, rfl, ?_⟩
      walk_at "rt"
      rw [fitsB_int] at q
      refine ite2 (fun e => ?_) (fun e => ?_)
      · rw [decide_eq_true e, Bool.true_and] at q
        exact q
      · rw [decide_eq_false e, Bool.false_and] at q
        exact q
theorem ok_racedue {f f_isn : Addr} {fd fd_isn : FuncData} (D : Dn K mg "_law_race_due" s_racedue ["own", "other", "shared", "high"] f fd) (D_Lisnumber : Dn K mg "_law_is_number" s_Lisnumber ["thing", "low", "high"] f_isn fd_isn)
    (G_Lisnumber : FnOk P w K mg base CX0 1 f_isn fd_isn ["thing", "low", "high"] spFits) : FnOk P w K mg base CX0 2 f fd ["own", "other", "shared", "high"] spDue := by
  refine D.F.ok sc_racedue (fun vs H Q E h => ?_) (fun cdv A outer s H vs Q E hr h => ?_)
  · obtain ⟨x, y, z, hi, rfl, _⟩ := h
    rfl
  · obtain ⟨x, y, z, hi, rfl, tx, ty, tz, h1, h2⟩ := h
    refine ⟨_, (pss_cons (ps_if (pt_not (pt_val (pe_call G_Lisnumber (hr.mono (by omega)) (by rfl) D_Lisnumber.g D_Lisnumber.F.kp D_Lisnumber.b .nil pass0 (pa_cons (pv 0) (pa_cons pe_int (pa_cons (pv 3) pa_nil)))))) (pss_one (ps_ret (pe_tup (pa_cons pe_str (pa_cons (pv 0) pa_nil))))) pss_nil)
      (pss_cons (ps_if (pt_not (pt_val (pe_call G_Lisnumber (hr.mono (by omega)) (by rfl) D_Lisnumber.g D_Lisnumber.F.kp D_Lisnumber.b .nil pass0 (pa_cons (pv 1) (pa_cons pe_int (pa_cons (pv 3) pa_nil)))))) (pss_one (ps_ret (pe_tup (pa_cons pe_str (pa_cons (pv 1) pa_nil))))) pss_nil)
      (pss_cons (ps_if (pt_not (pt_val (pe_call G_Lisnumber (hr.mono (by omega)) (by rfl) D_Lisnumber.g D_Lisnumber.F.kp D_Lisnumber.b .nil pass0 (pa_cons (pv 2) (pa_cons pe_int (pa_cons (pv 3) pa_nil)))))) (pss_one (ps_ret (pe_tup (pa_cons pe_str (pa_cons (pv 2) pa_nil))))) pss_nil)
      (pss_cons (ps_if (pt_cmpR op_eq (pe_op op_add (pv 0) (pv 2)) pe_int (nomark _)) (pss_one (ps_ret (pe_tup (pa_cons pe_str (pa_cons (pv 0) pa_nil))))) pss_nil)
      (pss_cons (ps_if (pt_cmpR op_eq (pe_op op_add (pv 1) (pv 2)) pe_int (nomark _)) (pss_one (ps_ret (pe_tup (pa_cons pe_str (pa_cons (pv 1) pa_nil))))) pss_nil)
      (pss_one (ps_ret pe_non))))))), ?_⟩
    have bad : ∀ wh v, fault x y z hi = some (wh, v) → 2 ≤ sizeLine ∧ ∀ p, H p = none → Q (.ref p) (L2.upd H p (.tup [.str wh, v])) := fun wh v e => ⟨by decide, fun p np => h2 wh v e p _ (Keeps.new np) upd_same⟩
    have bb : ∀ wh v, bfault x y z hi = some (wh, v) → fault x y z hi = some (wh, v) := fun wh v e => by unfold fault; rw [e]
    walk_at "st"
    refine ⟨_, _, _, rfl, tx, ?_⟩
    walk_at "rt"
    refine ite2 (fun e1 => bad _ _ (bb _ _ (by unfold bfault; rw [if_pos e1]))) (fun e1 => ?_)
    walk_at "st"
    refine ⟨_, _, _, rfl, ty, ?_⟩
    walk_at "rt"
    refine ite2 (fun e2 => bad _ _ (bb _ _ (by unfold bfault; rw [if_neg e1, if_pos e2]))) (fun e2 => ?_)
    walk_at "st"
    refine ⟨_, _, _, rfl, tz, ?_⟩
    walk_at "rt"
    refine ite2 (fun e3 => bad _ _ (bb _ _ (by unfold bfault; rw [if_neg e1, if_neg e2, if_pos e3]))) (fun e3 => ?_)
    have en : bfault x y z hi = none := by unfold bfault; rw [if_neg e1, if_neg e2, if_neg e3]
    have ef : fault x y z hi = zfault x y z := by
      unfold fault
      rw [en]
    obtain ⟨a, b, c, rfl, rfl, rfl, _⟩ := bfault_none en
    rw [ef] at h1 bad
    simp only [zfault] at h1 bad
    walk_at "st"
    refine ite2 (fun e => bad _ _ (by rw [if_pos e])) (fun e => ?_)
    walk_at "st"
    refine ite2 (fun e' => bad _ _ (by rw [if_neg e, if_pos e'])) (fun e' => ?_)
    walk_at "rt"
    exact h1 (by rw [if_neg e, if_neg e'])
end
end K01
namespace K01
open PySem PySem.Spec PyProof.Rows L2 TL HotExc
inductive Deed | fill | share | own | pass
deriving DecidableEq
def Deed.str : Deed → Str
  | .fill => Str.ofString "fill"
  | .share => Str.ofString "share"
  | .own => Str.ofString "own"
  | .pass => Str.ofString "pass"
/-- the numbers left behind a deed, the mover's first -/
def Deed.left : Deed → Int → Int → Int → Int × Int × Int
  | .fill, a, b, c => (a, b - 1, c)
  | .share, a, b, c => (a, b, c - 1)
  | .own, a, b, c => (a - 1, b, c)
  | .pass, a, b, c => (a, b, c)
def Deed.takes (d : Deed) (a b c : Int) : Prop := (d.left a b c).2.1 + (d.left a b c).2.2 = 0
instance (d : Deed) (a b c : Int) : Decidable (d.takes a b c) := inferInstanceAs (Decidable (_ = _))
def all4 : List Deed := [.fill, .share, .own, .pass]
def Deed.num {α : Type} (d : Deed) (x y z u : α) : α := match d with | .fill => y | .share => z | .own => x | .pass => u
def Deed.rest (d : Deed) (u : Int) : Int := match d with | .pass => u - 1 | _ => u
def Deed.lives (d : Deed) (a b c : Int) : Bool := decide (0 < (d.left a b c).1 + (d.left a b c).2.2) || (decide (d.str = Str.ofString "fill") || (decide (d.str = Str.ofString "share") && decide (d.takes a b c)))
def Deed.open (d : Deed) (a b c : Int) : Bool := decide (0 ≤ d.num (d.left a b c).1 (d.left a b c).2.1 (d.left a b c).2.2 (d.rest 1)) && d.lives a b c
def opens (a b c : Int) : List Deed := all4.filter fun d => d.open a b c
def sd (d : Deed) : V := .str d.str
end K01
namespace K01
open PySem PySem.Spec PyProof.Rows L2 TL HotExc
theorem s_ne1 : decide (Str.ofString "share" = Str.ofString "fill") = false := by decide +kernel
theorem s_ne2 : decide (Str.ofString "own" = Str.ofString "fill") = false := by decide +kernel
theorem s_ne3 : decide (Str.ofString "pass" = Str.ofString "fill") = false := by decide +kernel
theorem s_ne4 : decide (Str.ofString "own" = Str.ofString "share") = false := by decide +kernel
theorem s_ne5 : decide (Str.ofString "pass" = Str.ofString "share") = false := by decide +kernel
theorem s_ne6 : decide (Str.ofString "fill" = Str.ofString "pass") = false := by decide +kernel
theorem s_ne7 : decide (Str.ofString "share" = Str.ofString "pass") = false := by decide +kernel
theorem s_ne8 : decide (Str.ofString "own" = Str.ofString "pass") = false := by decide +kernel
theorem open_fill (a b c : Int) : Deed.fill.open a b c = true ↔ 1 ≤ b := by
  have e : Deed.fill.open a b c = (decide (0 ≤ b - 1) && (decide (0 < a + c) || (decide (Str.ofString "fill" = Str.ofString "fill") || (decide (Str.ofString "fill" = Str.ofString "share") && decide (Deed.fill.takes a b c))))) := rfl
  rw [e, decide_eq_true (p := Str.ofString "fill" = Str.ofString "fill") rfl, Bool.true_or, Bool.or_true, Bool.and_true, decide_eq_true_eq]
  exact ⟨fun h => by omega, fun h => by omega⟩
theorem open_share (a b c : Int) : Deed.share.open a b c = true ↔ 1 ≤ c ∧ (0 < a + (c - 1) ∨ b + (c - 1) = 0) := by
  have e : Deed.share.open a b c = (decide (0 ≤ c - 1) && (decide (0 < a + (c - 1)) || (decide (Str.ofString "share" = Str.ofString "fill") || (decide (Str.ofString "share" = Str.ofString "share") && decide (b + (c - 1) = 0))))) := rfl
  rw [e, s_ne1, decide_eq_true (p := Str.ofString "share" = Str.ofString "share") rfl, Bool.false_or, Bool.true_and, Bool.and_eq_true, Bool.or_eq_true, decide_eq_true_eq, decide_eq_true_eq, decide_eq_true_eq]
  exact ⟨fun h => ⟨by omega, h.2⟩, fun h => ⟨by omega, h.2⟩⟩
theorem open_own (a b c : Int) : Deed.own.open a b c = true ↔ 1 ≤ a ∧ 0 < a - 1 + c := by
  have e : Deed.own.open a b c = (decide (0 ≤ a - 1) && (decide (0 < a - 1 + c) || (decide (Str.ofString "own" = Str.ofString "fill") || (decide (Str.ofString "own" = Str.ofString "share") && decide (b + c = 0))))) := rfl
  rw [e, s_ne2, s_ne4, Bool.false_or, Bool.false_and, Bool.or_false, Bool.and_eq_true, decide_eq_true_eq, decide_eq_true_eq]
  exact ⟨fun h => ⟨by omega, h.2⟩, fun h => ⟨by omega, h.2⟩⟩
theorem open_pass (a b c : Int) : Deed.pass.open a b c = true ↔ 0 < a + c := by
  have e : Deed.pass.open a b c = (decide ((0 : Int) ≤ 1 - 1) && (decide (0 < a + c) || (decide (Str.ofString "pass" = Str.ofString "fill") || (decide (Str.ofString "pass" = Str.ofString "share") && decide (b + c = 0))))) := rfl
  rw [e, s_ne3, s_ne5, Bool.false_or, Bool.false_and, Bool.or_false, Bool.and_eq_true, decide_eq_true_eq, decide_eq_true_eq]
  exact ⟨fun h => h.2, fun h => ⟨by omega, h⟩⟩
/-- the race behind a deed that is open and does not take -/
theorem race_next {hi a b c : Int} (R : Race hi a b c) (d : Deed) (h : d.open a b c = true) (nt : ¬ d.takes a b c) : Race hi (d.left a b c).2.1 (d.left a b c).1 (d.left a b c).2.2 := by
  obtain ⟨a0, a1, b0, b1, c0, c1, ac, bc⟩ := R
  cases d with
  | fill =>
    rw [open_fill] at h
    have nt : ¬ (b - 1 + c = 0) := nt
    exact ⟨by show 0 ≤ b - 1; omega, by show b - 1 ≤ hi; omega, a0, a1, c0, c1, by show 1 ≤ b - 1 + c; omega, ac⟩
  | share =>
    rw [open_share] at h
    have nt : ¬ (b + (c - 1) = 0) := nt
    exact ⟨b0, b1, a0, a1, by show 0 ≤ c - 1; omega, by show c - 1 ≤ hi; omega, by show 1 ≤ b + (c - 1); omega, by show 1 ≤ a + (c - 1); omega⟩
  | own =>
    rw [open_own] at h
    exact ⟨b0, b1, by show 0 ≤ a - 1; omega, by show a - 1 ≤ hi; omega, c0, c1, bc, by show 1 ≤ a - 1 + c; omega⟩
  | pass => exact ⟨b0, b1, a0, a1, c0, c1, bc, ac⟩
theorem all4_mem (d : Deed) : d ∈ all4 := by cases d <;> decide
theorem opens_mem {a b c : Int} {d : Deed} : d ∈ opens a b c ↔ d.open a b c = true := by
  unfold opens
  rw [List.mem_filter]
  exact ⟨fun h => h.2, fun h => ⟨all4_mem d, h⟩⟩
end K01
namespace K01
open PySem PySem.Spec PyProof.Rows L2 TL HotExc
local macro_rules | `(tactic| walk_at "rd") => `(tactic| simp only [start1, wipe, isR, isBool, isInt, isStr, isLst, isTup, tAsg, gName, gSub, tVar, tC, tOp, tUn, tTest, tIfS, tRet, tRetN, tDrop, tB, tAnd, tOr, tNot, tAndV, tOrV, tNotV, tIf, tCB, tCons, tNil, tNext, tCall, tBM, tTup, tLst, rU, rInW, rNinW, Int.reduceNeg, tG, tG2, sP, tDisp, tPairs, tCallS, tCallSD, tCallT, StX.tStar, tCallK, tCallKS, rTupOf, tDrop, rI0, rI, rEq, rNe, scal, forR_eq, forR2_eq, forS_eq, forL_eq, lcT_eq, lcRT_eq, lcS_eq, rLenX, rLenS, rListOf, tRevL, rMulS, rRepL, rCatL, tPart, tNoPart, CwR.tReplC, rAllK, rInSg, rNinSg, sgn_inj, rAddS, rInSt, tChain, tM1, tM0, rSplitN, rJoinN, exists_eq, rIntI, rIntB, rIntS, rStrI, rAbs, rOrd, rMin, rMax, rIxL, rIxX, rSetL, rAppend, rIxS, rSlS, rSlL, tSl, List.map_cons, List.map_nil, List.replicate_succ, List.replicate_zero, List.length_cons, List.length_nil, Nat.reduceSub, Nat.reduceAdd, Nat.zero_add, Nat.sub_self, List.getElem?_cons_zero, List.getElem?_cons_succ, List.set_cons_zero, List.set_cons_succ, List.append_nil, List.nil_append, List.cons_append, Option.some.injEq, not_true_eq_false, reduceCtorEq, exists_eq_left', exists_eq_left, exists_eq', exists_and_left, exists_and_right, V.int.injEq, V.str.injEq, V.bl.injEq, V.ref.injEq, List.cons.injEq, and_true, true_and, and_assoc, decide_eq_true_eq, Bool.not_eq_true', decide_eq_false_iff_not, ite_true, ite_false, if_true, if_false, Bool.not_true, Bool.not_false, Bool.false_eq_true, eq_self_iff_true, reduceIte, ne_eq, Int.reduceEq, not_false_eq_true])
local macro_rules | `(tactic| walk_at "rt") => `(tactic| try walk_at "rd")
local macro_rules | `(tactic| walk_at "st") => `(tactic| (walk_at "rt"; refine r_seq ?_; walk_at "rt"))
local macro_rules | `(tactic| walk_at "hp") => `(tactic| first | assumption | exact upd_same | (rw [upd_ne (by assumption)]; walk_at "hp"))
local macro_rules | `(tactic| walk_at "ex1") => `(tactic| ((with_reducible refine Exists.intro ?w (And.intro ?hx ?_)); (case hx => first | exact sq_of (by walk_at "hp") | exact .inl (sq_of (by walk_at "hp")) | exact rfl | (show _ = some (HO.lst _); walk_at "hp"))))
local macro_rules | `(tactic| walk_at "ex") => `(tactic| repeat (first | walk_at "ex1" | walk_at "rd"))
abbrev s_valuebyrule : Stmt := topS 24
theorem sc_valuebyrule : FnScope ["own", "other", "shared", "after_pass"] ["own", "other", "shared", "after_pass"] (defScope s_valuebyrule) := ⟨rfl, rfl, rfl, by decide +kernel, rfl, by decide +kernel, by decide +kernel⟩
abbrev s_racevalue : Stmt := topS 19
theorem sc_racevalue : FnScope ["own", "other", "shared", "after_pass"] ["own", "other", "shared", "after_pass"] (defScope s_racevalue) := ⟨rfl, rfl, rfl, by decide +kernel, rfl, by decide +kernel, by decide +kernel⟩
/-- the value by the rule -/
def valR (a b c : Int) (p : Bool) : Str := if max (c - 1) 0 ≤ a - b then Str.ofString "wins" else if max c 1 ≤ b - a ∧ p = false then Str.ofString "loses" else Str.ofString "peace"
def spValR : Sp := fun vs H Q _ => ∃ a b c p, vs = [.int a, .int b, .int c, .bl p] ∧ Q (.str (valR a b c p)) H
def spRaceValue (C : Addr) : Sp := fun vs H Q E => ∃ p, spRaced C 1000000 [.bl p] (fun a b c H Q => Q (.str (valR a b c p)) H) vs H Q E
section
variable {P : Program} {w : World} {K : PySem.W.Frag} {mg : Str → Option Value} {base : Heap}
theorem ok_valuebyrule {f : Addr} {fd : FuncData} (B : Bi mg) {t1 t2 t3 : Tok} (D : Dn K mg "value_by_rule" s_valuebyrule ["own", "other", "shared", "after_pass"] f fd)
    (gc_WINS : mg "WINS" = some (.str (Str.ofString "wins") t1)) (gc_LOSES : mg "LOSES" = some (.str (Str.ofString "loses") t2)) (gc_PEACE : mg "PEACE" = some (.str (Str.ofString "peace") t3)) : FnOk P w K mg base CX0 1 f fd ["own", "other", "shared", "after_pass"] spValR := by
  refine D.F.ok sc_valuebyrule (fun vs H Q E h => ?_) (fun cdv A outer s H vs Q E hr h => ?_)
  · obtain ⟨a, b, c, p, rfl, _⟩ := h
    rfl
  · obtain ⟨a, b, c, p, rfl, q⟩ := h
    refine ⟨_, (pss_cons (ps_if (pt_cmpR op_ge (pe_op op_sub (pv 0) (pv 1)) (pe_callB (call_maxI rfl) (by rfl) B.max (by decide +kernel) (pa_cons (pe_op op_sub (pv 2) pe_int) (pa_cons pe_int pa_nil))) (nomark _)) (pss_one (ps_ret (pe_glob (v := .str (Str.ofString "wins")) (by rfl) gc_WINS ⟨_, rfl⟩))) pss_nil)
      (pss_cons (ps_if (PW.pt (pw_and (pt_cmpR op_ge (pe_op op_sub (pv 1) (pv 0)) (pe_callB (call_maxI rfl) (by rfl) B.max (by decide +kernel) (pa_cons (pv 2) (pa_cons pe_int pa_nil))) (nomark _)) (pw_and1 (pt_not (pt_val (pv 3)))))) (pss_one (ps_ret (pe_glob (v := .str (Str.ofString "loses")) (by rfl) gc_LOSES ⟨_, rfl⟩))) pss_nil)
      (pss_one (ps_ret (pe_glob (v := .str (Str.ofString "peace")) (by rfl) gc_PEACE ⟨_, rfl⟩))))), ?_⟩
    walk_at "st"
    unfold valR at q
    refine ite2 (fun e => ?_) (fun e => ?_)
    · rw [if_pos (by split at e <;> omega)] at q
      exact q
    rw [if_neg (by split at e <;> omega)] at q
    walk_at "st"
    refine ite2 (fun e1 => ?_) (fun e1 => ?_)
    · cases p with
      | false =>
        rw [if_pos ⟨by split at e1 <;> omega, rfl⟩] at q
        walk_at "rt"
        exact q
      | true =>
        rw [if_neg (fun z => by cases z.2)] at q
        walk_at "rt"
        exact q
    · rw [if_neg (fun z => e1 (by have := z.1; split <;> omega))] at q
      walk_at "rt"
      exact q
theorem ok_racevalue {C f f_cr f_vr : Addr} {fd fd_cr fd_vr : FuncData} {t : Tok} (D : Dk K mg "race_value" s_racevalue f fd) (D_checkrace : Dn K mg "check_race" s_checkrace ["own", "other", "shared", "most"] f_cr fd_cr) (D_valuebyrule : Dn K mg "value_by_rule" s_valuebyrule ["own", "other", "shared", "after_pass"] f_vr fd_vr)
    (gc_MOST_FREE_PLACES : mg "MOST_FREE_PLACES" = some (.int 1000000 t))
    (G_checkrace : FnOk P w K mg base (L2N.CX P w) 5 f_cr fd_cr ["own", "other", "shared", "most"] (spBounds C fault)) (G_valuebyrule : FnOk P w K mg base CX0 1 f_vr fd_vr ["own", "other", "shared", "after_pass"] spValR) : FnOk P w K mg base (L2N.CX P w) 6 f fd ["own", "other", "shared", "after_pass"] (spRaceValue C) := by
  refine okN D.F sc_racevalue (fun vs H Q E h => ?_) (fun cdv A outer s H vs Q E hr h => ?_)
  · obtain ⟨p, x, y, z, rfl, _⟩ := h
    rfl
  · obtain ⟨p, x, y, z, rfl, tx, ty, tz, h1, h2⟩ := h
    refine ⟨_, (pss_cons (ps_expr (pe_callS G_checkrace (hr.mono (by omega)) rfl D_checkrace.g D_checkrace.F.kp D_checkrace.b (fun σ => L2N.passAt (L2N.takes_of rfl rfl rfl rfl) σ) (pa_cons (pv 0) (pa_cons (pv 1) (pa_cons (pv 2) (pa_cons (pe_glob (v := .int 1000000) (by rfl) gc_MOST_FREE_PLACES ⟨_, rfl⟩) pa_nil))))))
      (pss_one (ps_ret (pe_call G_valuebyrule (hr.mono (by omega)) (by rfl) D_valuebyrule.g D_valuebyrule.F.kp D_valuebyrule.b .nil pass0 (pa_cons (pv 0) (pa_cons (pv 1) (pa_cons (pv 2) (pa_cons (pv 3) pa_nil)))))))), ?_⟩
    walk_at "st"
    refine ⟨_, _, _, _, rfl, tx, ty, tz, fun f1 => ?_, h2⟩
    obtain ⟨a, b, c, rfl, rfl, rfl, R⟩ := fault_none f1
    walk_at "rt"
    exact ⟨a, b, c, p, rfl, h1 a b c R rfl rfl rfl⟩
end
end K01
namespace K01
open PySem PySem.Spec PyProof.Rows L2 TL HotExc
/-! ### the rule agrees with one step of play -/
def rk (a b c : Int) (p : Bool) : Nat := if max (c - 1) 0 ≤ a - b then 0 else if max c 1 ≤ b - a ∧ p = false then 2 else 1
def nm (n : Nat) : Str := match n with | 0 => Str.ofString "wins" | 1 => Str.ofString "peace" | _ => Str.ofString "loses"
theorem valR_nm (a b c : Int) (p : Bool) : valR a b c p = nm (rk a b c p) := by
  unfold valR rk
  split
  · rfl
  · split <;> rfl
def isPass (d : Deed) : Bool := decide (d.str = Str.ofString "pass")
def rr (d : Deed) (a b c : Int) (p : Bool) : Nat := if d.takes a b c then 0 else if isPass d = true ∧ p = true then 1 else 2 - rk (d.left a b c).2.1 (d.left a b c).1 (d.left a b c).2.2 (isPass d)
theorem rr_fill (a b c : Int) (p : Bool) : rr .fill a b c p = if b - 1 + c = 0 then 0 else 2 - rk (b - 1) a c false := by
  unfold rr isPass
  rw [show Deed.fill.str = Str.ofString "fill" from rfl, s_ne6]
  simp only [Bool.false_eq_true, false_and, if_false]
  rfl
theorem rr_share (a b c : Int) (p : Bool) : rr .share a b c p = if b + (c - 1) = 0 then 0 else 2 - rk b a (c - 1) false := by
  unfold rr isPass
  rw [show Deed.share.str = Str.ofString "share" from rfl, s_ne7]
  simp only [Bool.false_eq_true, false_and, if_false]
  rfl
theorem rr_own (a b c : Int) (p : Bool) : rr .own a b c p = if b + c = 0 then 0 else 2 - rk b (a - 1) c false := by
  unfold rr isPass
  rw [show Deed.own.str = Str.ofString "own" from rfl, s_ne8]
  simp only [Bool.false_eq_true, false_and, if_false]
  rfl
theorem rr_pass (a b c : Int) (p : Bool) : rr .pass a b c p = if b + c = 0 then 0 else if p = true then 1 else 2 - rk b a c true := by
  unfold rr isPass
  rw [show decide (Deed.pass.str = Str.ofString "pass") = true from decide_eq_true rfl]
  simp only [true_and]
  rfl
theorem rk_t (a b c : Int) : rk a b c true = if max (c - 1) 0 ≤ a - b then 0 else 1 := by
  unfold rk
  simp only [Bool.true_eq_false, and_false, if_false]
theorem rk_f (a b c : Int) : rk a b c false = if max (c - 1) 0 ≤ a - b then 0 else if max c 1 ≤ b - a then 2 else 1 := by
  unfold rk
  simp only [and_true]
theorem step_least {hi a b c : Int} {p : Bool} (R : Race hi a b c) (d : Deed) (h : d.open a b c = true) : rk a b c p ≤ rr d a b c p := by
  obtain ⟨a0, a1, b0, b1, c0, c1, ac, bc⟩ := R
  cases d with
  | fill =>
    rw [open_fill] at h
    rw [rr_fill, rk_f]
    cases p <;> simp only [rk_t, rk_f] <;> (repeat' split) <;> omega
  | share =>
    rw [open_share] at h
    rw [rr_share, rk_f]
    cases p <;> simp only [rk_t, rk_f] <;> (repeat' split) <;> omega
  | own =>
    rw [open_own] at h
    rw [rr_own, rk_f]
    cases p <;> simp only [rk_t, rk_f] <;> (repeat' split) <;> omega
  | pass =>
    rw [open_pass] at h
    rw [rr_pass, rk_t]
    cases p <;> simp only [rk_t, rk_f, if_true, Bool.false_eq_true, if_false] <;> (repeat' split) <;> omega
theorem step_some {hi a b c : Int} {p : Bool} (R : Race hi a b c) : ∃ d : Deed, d.open a b c = true ∧ rr d a b c p = rk a b c p := by
  obtain ⟨a0, a1, b0, b1, c0, c1, ac, bc⟩ := R
  by_cases hw : max (c - 1) 0 ≤ a - b
  · have e : rk a b c p = 0 := by
      unfold rk
      rw [if_pos hw]
    rw [e]
    by_cases hb : 1 ≤ b
    · refine ⟨.fill, (open_fill a b c).mpr hb, ?_⟩
      rw [rr_fill, rk_f]
      (repeat' split) <;> omega
    · refine ⟨.share, (open_share a b c).mpr (by omega), ?_⟩
      rw [rr_share, rk_f]
      (repeat' split) <;> omega
  · cases p with
    | true =>
      refine ⟨.pass, (open_pass a b c).mpr (by omega), ?_⟩
      rw [rr_pass, if_neg (by omega), if_pos rfl, rk_t, if_neg hw]
    | false =>
      by_cases hl : max c 1 ≤ b - a
      · refine ⟨.pass, (open_pass a b c).mpr (by omega), ?_⟩
        rw [rr_pass, rk_t, rk_f]
        simp only [Bool.false_eq_true, if_false]
        (repeat' split) <;> omega
      · by_cases hp : max (c - 1) 0 ≤ b - a
        · refine ⟨.fill, (open_fill a b c).mpr (by omega), ?_⟩
          rw [rr_fill, rk_f, rk_f]
          (repeat' split) <;> omega
        · refine ⟨.pass, (open_pass a b c).mpr (by omega), ?_⟩
          rw [rr_pass, rk_t, rk_f]
          simp only [Bool.false_eq_true, if_false]
          (repeat' split) <;> omega
theorem rk_le (a b c : Int) (p : Bool) : rk a b c p ≤ 2 := by
  unfold rk
  (repeat' split) <;> omega
theorem rr_le (d : Deed) (a b c : Int) (p : Bool) : rr d a b c p ≤ 2 := by
  unfold rr
  (repeat' split) <;> omega
theorem nm_inj {m n : Nat} (hm : m ≤ 2) (hn : n ≤ 2) (h : nm m = nm n) : m = n := by
  have h0 : nm 0 ≠ nm 1 := by decide +kernel
  have h1 : nm 0 ≠ nm 2 := by decide +kernel
  have h2 : nm 1 ≠ nm 2 := by decide +kernel
  match m, n, hm, hn with
  | 0, 0, _, _ => rfl
  | 1, 1, _, _ => rfl
  | 2, 2, _, _ => rfl
  | 0, 1, _, _ => exact absurd h h0
  | 0, 2, _, _ => exact absurd h h1
  | 1, 2, _, _ => exact absurd h h2
  | 1, 0, _, _ => exact absurd h.symm h0
  | 2, 0, _, _ => exact absurd h.symm h1
  | 2, 1, _, _ => exact absurd h.symm h2
/-- all names that the deeds reach -/
def reached (a b c : Int) (p : Bool) : List Str := (opens a b c).map fun d => nm (rr d a b c p)
theorem none_not (a b c : Int) (p : Bool) : Str.ofString "none" ∉ reached a b c p := by
  intro h
  obtain ⟨d, _, e⟩ := List.mem_map.mp h
  have h := rr_le d a b c p
  have h0 : nm 0 ≠ Str.ofString "none" := by decide +kernel
  have h1 : nm 1 ≠ Str.ofString "none" := by decide +kernel
  have h2 : nm 2 ≠ Str.ofString "none" := by decide +kernel
  have : rr d a b c p = 0 ∨ rr d a b c p = 1 ∨ rr d a b c p = 2 := by omega
  rcases this with z | z | z <;> rw [z] at e
  · exact h0 e
  · exact h1 e
  · exact h2 e
theorem best_first {hi a b c : Int} {p : Bool} (R : Race hi a b c) : ∃ r, ([nm 0, nm 1, nm 2].filter fun z => decide (z ∈ reached a b c p)) = valR a b c p :: r := by
  obtain ⟨d, hd, he⟩ := step_some (p := p) R
  have hin : nm (rk a b c p) ∈ reached a b c p := List.mem_map.mpr ⟨d, opens_mem.mpr hd, by rw [he]⟩
  have hno : ∀ n, n < rk a b c p → nm n ∉ reached a b c p := fun n hn h => by
    obtain ⟨d2, h2, e2⟩ := List.mem_map.mp h
    have l := step_least (p := p) R d2 (opens_mem.mp h2)
    have := nm_inj (rr_le d2 a b c p) (by have := rk_le a b c p; omega) e2
    omega
  rw [valR_nm]
  have l := rk_le a b c p
  generalize rk a b c p = n at hin hno l
  match n, l with
  | 0, _ => exact ⟨_, by rw [List.filter_cons, if_pos (decide_eq_true hin)]⟩
  | 1, _ => exact ⟨_, by rw [List.filter_cons, if_neg (by simpa using hno 0 (by omega)), List.filter_cons, if_pos (decide_eq_true hin)]⟩
  | 2, _ => exact ⟨_, by rw [List.filter_cons, if_neg (by simpa using hno 0 (by omega)), List.filter_cons, if_neg (by simpa using hno 1 (by omega)), List.filter_cons, if_pos (decide_eq_true hin)]⟩
end K01
namespace K01
open PySem PySem.Spec PyProof.Rows L2 TL HotExc
local macro_rules | `(tactic| walk_at "rd") => `(tactic| simp only [start1, wipe, isR, isBool, isInt, isStr, isLst, isTup, tAsg, gName, gSub, tVar, tC, tOp, tUn, tTest, tIfS, tRet, tRetN, tDrop, tB, tAnd, tOr, tNot, tAndV, tOrV, tNotV, tIf, tCB, tCons, tNil, tNext, tCall, tBM, tTup, tLst, rU, rInW, rNinW, Int.reduceNeg, tG, tG2, sP, tDisp, tPairs, tCallS, tCallSD, tCallT, StX.tStar, tCallK, tCallKS, rTupOf, tDrop, rI0, rI, rEq, rNe, scal, forR_eq, forR2_eq, forS_eq, forL_eq, lcT_eq, lcRT_eq, lcS_eq, rLenX, rLenS, rListOf, tRevL, rMulS, rRepL, rCatL, tPart, tNoPart, CwR.tReplC, rAllK, rInSg, rNinSg, sgn_inj, rAddS, rInSt, tChain, tM1, tM0, rSplitN, rJoinN, exists_eq, rIntI, rIntB, rIntS, rStrI, rAbs, rOrd, rMin, rMax, rIxL, rIxX, rSetL, rAppend, rIxS, rSlS, rSlL, tSl, List.map_cons, List.map_nil, List.replicate_succ, List.replicate_zero, List.length_cons, List.length_nil, Nat.reduceSub, Nat.reduceAdd, Nat.zero_add, Nat.sub_self, List.getElem?_cons_zero, List.getElem?_cons_succ, List.set_cons_zero, List.set_cons_succ, List.append_nil, List.nil_append, List.cons_append, Option.some.injEq, not_true_eq_false, reduceCtorEq, exists_eq_left', exists_eq_left, exists_eq', exists_and_left, exists_and_right, V.int.injEq, V.str.injEq, V.bl.injEq, V.ref.injEq, List.cons.injEq, and_true, true_and, and_assoc, decide_eq_true_eq, Bool.not_eq_true', decide_eq_false_iff_not, ite_true, ite_false, if_true, if_false, Bool.not_true, Bool.not_false, Bool.false_eq_true, eq_self_iff_true, reduceIte, ne_eq, Int.reduceEq, not_false_eq_true])
local macro_rules | `(tactic| walk_at "rt") => `(tactic| try walk_at "rd")
local macro_rules | `(tactic| walk_at "st") => `(tactic| (walk_at "rt"; refine r_seq ?_; walk_at "rt"))
local macro_rules | `(tactic| walk_at "hp") => `(tactic| first | assumption | exact upd_same | (rw [upd_ne (by assumption)]; walk_at "hp"))
local macro_rules | `(tactic| walk_at "ex1") => `(tactic| ((with_reducible refine Exists.intro ?w (And.intro ?hx ?_)); (case hx => first | exact sq_of (by walk_at "hp") | exact .inl (sq_of (by walk_at "hp")) | exact rfl | (show _ = some (HO.lst _); walk_at "hp"))))
local macro_rules | `(tactic| walk_at "ex") => `(tactic| repeat (first | walk_at "ex1" | walk_at "rd"))
abbrev s_afterdeed : Stmt := topS 26
theorem sc_afterdeed : FnScope ["own", "other", "shared", "deed", "own_left", "other_left", "shared_left"] ["own", "other", "shared", "deed"] (defScope s_afterdeed) := ⟨rfl, rfl, rfl, by decide +kernel, rfl, by decide +kernel, by decide +kernel⟩
def spAfter : Sp := fun vs H Q _ => ∃ d a b c, vs = [.int a, .int b, .int c, .str (Deed.str d)] ∧ (d.takes a b c → Q .non H) ∧
  (¬ d.takes a b c → ∀ u, H u = none → Q (.ref u) (L2.upd H u (.tup [.int (d.left a b c).2.1, .int (d.left a b c).1, .int (d.left a b c).2.2])))
theorem d_fill : Deed.fill.str = Str.ofString "fill" := rfl
theorem d_ne (d e : Deed) (h : d ≠ e) : d.str ≠ e.str := by
  cases d <;> cases e <;> first | exact absurd rfl h | (intro z; exact absurd z (by decide +kernel))
theorem d_inj {d e : Deed} (h : d.str = e.str) : d = e := Decidable.byContradiction fun n => d_ne d e n h
section
variable {P : Program} {w : World} {K : PySem.W.Frag} {mg : Str → Option Value} {base : Heap}
theorem ok_afterdeed {f : Addr} {fd : FuncData} {t1 t2 t3 : Tok} (D : Dn K mg "after_deed" s_afterdeed ["own", "other", "shared", "deed"] f fd)
    (gc_FILL : mg "FILL" = some (.str (Str.ofString "fill") t1)) (gc_SHARE : mg "SHARE" = some (.str (Str.ofString "share") t2)) (gc_OWN : mg "OWN" = some (.str (Str.ofString "own") t3)) : FnOk P w K mg base CX0 1 f fd ["own", "other", "shared", "deed"] spAfter := by
  refine D.F.ok sc_afterdeed (fun vs H Q E h => ?_) (fun cdv A outer s H vs Q E hr h => ?_)
  · obtain ⟨d, a, b, c, rfl, _⟩ := h
    rfl
  · obtain ⟨d, a, b, c, rfl, h1, h2⟩ := h
    refine ⟨_, (pss_cons (ps_set (i := 4) sc_afterdeed.nd rfl (.inl rfl) (pe_ifExp (pt_cmpR op_eq (pv 3) (pe_glob (v := .str (Str.ofString "own")) (by rfl) gc_OWN ⟨_, rfl⟩) (nomark _)) (pe_op op_sub (pv 0) pe_int) (pv 0)))
      (pss_cons (ps_set (i := 5) sc_afterdeed.nd rfl (.inl rfl) (pe_ifExp (pt_cmpR op_eq (pv 3) (pe_glob (v := .str (Str.ofString "fill")) (by rfl) gc_FILL ⟨_, rfl⟩) (nomark _)) (pe_op op_sub (pv 1) pe_int) (pv 1)))
      (pss_cons (ps_set (i := 6) sc_afterdeed.nd rfl (.inl rfl) (pe_ifExp (pt_cmpR op_eq (pv 3) (pe_glob (v := .str (Str.ofString "share")) (by rfl) gc_SHARE ⟨_, rfl⟩) (nomark _)) (pe_op op_sub (pv 2) pe_int) (pv 2)))
      (pss_cons (ps_if (pt_cmpR op_eq (pe_op op_add (pv 5) (pv 6)) pe_int (nomark _)) (pss_one (ps_ret pe_non)) pss_nil)
      (pss_one (ps_ret (pe_tup (pa_cons (pv 5) (pa_cons (pv 4) (pa_cons (pv 6) pa_nil)))))))))), ?_⟩
    cases d
    all_goals
      walk_at "st"
      first
        | refine ite2 (fun e => absurd e (by decide +kernel)) (fun _ => ?_)
        | refine ite2 (fun _ => ?_) (fun e => absurd rfl e)
      walk_at "st"
      first
        | refine ite2 (fun e => absurd e (by decide +kernel)) (fun _ => ?_)
        | refine ite2 (fun _ => ?_) (fun e => absurd rfl e)
      walk_at "st"
      first
        | refine ite2 (fun e => absurd e (by decide +kernel)) (fun _ => ?_)
        | refine ite2 (fun _ => ?_) (fun e => absurd rfl e)
      walk_at "st"
      refine ite2 (fun e => h1 e) (fun e => ?_)
      walk_at "rt"
      exact ⟨by decide, fun u nu => h2 e u nu⟩
end
end K01
namespace K01
open PySem PySem.Spec PyProof.Rows L2 TL HotExc
local macro_rules | `(tactic| walk_at "rd") => `(tactic| simp only [start1, wipe, isR, isBool, isInt, isStr, isLst, isTup, tAsg, gName, gSub, tVar, tC, tOp, tUn, tTest, tIfS, tRet, tRetN, tDrop, tB, tAnd, tOr, tNot, tAndV, tOrV, tNotV, tIf, tCB, tCons, tNil, tNext, tCall, tBM, tTup, tLst, rU, rInW, rNinW, Int.reduceNeg, tG, tG2, sP, tDisp, tPairs, tCallS, tCallSD, tCallT, StX.tStar, tCallK, tCallKS, rTupOf, tDrop, rI0, rI, rEq, rNe, scal, forR_eq, forR2_eq, forS_eq, forL_eq, lcT_eq, lcRT_eq, lcS_eq, rLenX, rLenS, rListOf, tRevL, rMulS, rRepL, rCatL, tPart, tNoPart, CwR.tReplC, rAllK, rInSg, rNinSg, sgn_inj, rAddS, rInSt, tChain, tM1, tM0, rSplitN, rJoinN, exists_eq, rIntI, rIntB, rIntS, rStrI, rAbs, rOrd, rMin, rMax, rIxL, rIxX, rSetL, rAppend, rIxS, rSlS, rSlL, tSl, List.map_cons, List.map_nil, List.replicate_succ, List.replicate_zero, List.length_cons, List.length_nil, Nat.reduceSub, Nat.reduceAdd, Nat.zero_add, Nat.sub_self, List.getElem?_cons_zero, List.getElem?_cons_succ, List.set_cons_zero, List.set_cons_succ, List.append_nil, List.nil_append, List.cons_append, Option.some.injEq, not_true_eq_false, reduceCtorEq, exists_eq_left', exists_eq_left, exists_eq', exists_and_left, exists_and_right, V.int.injEq, V.str.injEq, V.bl.injEq, V.ref.injEq, List.cons.injEq, and_true, true_and, and_assoc, decide_eq_true_eq, Bool.not_eq_true', decide_eq_false_iff_not, ite_true, ite_false, if_true, if_false, Bool.not_true, Bool.not_false, Bool.false_eq_true, eq_self_iff_true, reduceIte, ne_eq, Int.reduceEq, not_false_eq_true])
local macro_rules | `(tactic| walk_at "rt") => `(tactic| try walk_at "rd")
local macro_rules | `(tactic| walk_at "st") => `(tactic| (walk_at "rt"; refine r_seq ?_; walk_at "rt"))
local macro_rules | `(tactic| walk_at "hp") => `(tactic| first | assumption | exact upd_same | (rw [upd_ne (by assumption)]; walk_at "hp"))
local macro_rules | `(tactic| walk_at "ex1") => `(tactic| ((with_reducible refine Exists.intro ?w (And.intro ?hx ?_)); (case hx => first | exact sq_of (by walk_at "hp") | exact .inl (sq_of (by walk_at "hp")) | exact rfl | (show _ = some (HO.lst _); walk_at "hp"))))
local macro_rules | `(tactic| walk_at "ex") => `(tactic| repeat (first | walk_at "ex1" | walk_at "rd"))
abbrev s_bestdeed : Stmt := topS 25
theorem sc_bestdeed : FnScope ["own", "other", "shared", "after_pass", "value"] ["own", "other", "shared", "after_pass"] (defScope s_bestdeed) := ⟨rfl, rfl, rfl, by decide +kernel, rfl, by decide +kernel, by decide +kernel⟩
abbrev s_racebest : Stmt := topS 20
theorem sc_racebest : FnScope ["own", "other", "shared", "after_pass"] ["own", "other", "shared", "after_pass"] (defScope s_racebest) := ⟨rfl, rfl, rfl, by decide +kernel, rfl, by decide +kernel, by decide +kernel⟩
/-- the best deed -/
def bestD (a b c : Int) (p : Bool) : Deed := if p = true ∧ ¬ valR a b c p = Str.ofString "wins" then .pass else if 1 ≤ b then .fill else if valR a b c p = Str.ofString "wins" then .share else .pass
def spBest : Sp := fun vs H Q _ => ∃ a b c p, vs = [.int a, .int b, .int c, .bl p] ∧ Q (.str (bestD a b c p).str) H
def spRaceBest (C : Addr) : Sp := fun vs H Q E => ∃ p, spRaced C 1000000 [.bl p] (fun a b c H Q => Q (.str (bestD a b c p).str) H) vs H Q E
theorem valR_wins {a b c : Int} {p : Bool} : valR a b c p = Str.ofString "wins" ↔ rk a b c p = 0 := by
  rw [valR_nm]
  exact ⟨fun h => nm_inj (rk_le ..) (by decide) h, fun h => by rw [h]; rfl⟩
theorem best_eq (a b c : Int) (p : Bool) : bestD a b c p = if p = true ∧ ¬ rk a b c p = 0 then .pass else if 1 ≤ b then .fill else if rk a b c p = 0 then .share else .pass := by
  unfold bestD
  simp only [valR_wins]
/-- the best deed is open and reaches the value -/
theorem best_reach {hi a b c : Int} {p : Bool} (R : Race hi a b c) : (bestD a b c p).open a b c = true ∧ rr (bestD a b c p) a b c p = rk a b c p := by
  obtain ⟨a0, a1, b0, b1, c0, c1, ac, bc⟩ := R
  rw [best_eq]
  have le := rk_le a b c p
  by_cases h1 : p = true ∧ ¬ rk a b c p = 0
  · rw [if_pos h1, open_pass, rr_pass]
    obtain ⟨rfl, h1⟩ := h1
    refine ⟨by omega, ?_⟩
    rw [if_neg (by omega), if_pos rfl]
    rw [rk_t] at h1 ⊢
    split at h1
    · exact absurd rfl h1
    · rw [if_neg (by assumption)]
  rw [if_neg h1]
  by_cases h2 : 1 ≤ b
  · rw [if_pos h2, open_fill, rr_fill]
    refine ⟨h2, ?_⟩
    cases p with
    | true =>
      have h0 : rk a b c true = 0 := Decidable.byContradiction fun h => h1 ⟨rfl, h⟩
      rw [h0]
      rw [rk_t] at h0
      split at h0
      · rw [rk_f]
        (repeat' split) <;> omega
      · omega
    | false =>
      rw [rk_f, rk_f]
      (repeat' split) <;> omega
  rw [if_neg h2]
  by_cases h3 : rk a b c p = 0
  · rw [if_pos h3, open_share, rr_share, h3]
    have hw : max (c - 1) 0 ≤ a - b := by
      unfold rk at h3
      split at h3
      · assumption
      · split at h3 <;> omega
    refine ⟨by omega, ?_⟩
    rw [rk_f]
    (repeat' split) <;> omega
  · rw [if_neg h3, open_pass, rr_pass]
    cases p with
    | true => exact absurd ⟨rfl, h3⟩ h1
    | false =>
      refine ⟨by omega, ?_⟩
      rw [rk_f] at h3
      rw [rk_f, rk_t]
      simp only [Bool.false_eq_true, if_false]
      (repeat' split) <;> (try omega) <;> (split at h3 <;> omega)
section
variable {P : Program} {w : World} {K : PySem.W.Frag} {mg : Str → Option Value} {base : Heap}
theorem ok_bestdeed {f f_vr : Addr} {fd fd_vr : FuncData} {t1 t2 t3 t4 : Tok} (D : Dn K mg "best_deed" s_bestdeed ["own", "other", "shared", "after_pass"] f fd) (D_valuebyrule : Dn K mg "value_by_rule" s_valuebyrule ["own", "other", "shared", "after_pass"] f_vr fd_vr)
    (gc_WINS : mg "WINS" = some (.str (Str.ofString "wins") t1)) (gc_FILL : mg "FILL" = some (.str (Str.ofString "fill") t2)) (gc_SHARE : mg "SHARE" = some (.str (Str.ofString "share") t3)) (gc_PASS_DEED : mg "PASS_DEED" = some (.str (Str.ofString "pass") t4))
    (G_valuebyrule : FnOk P w K mg base CX0 1 f_vr fd_vr ["own", "other", "shared", "after_pass"] spValR) : FnOk P w K mg base CX0 2 f fd ["own", "other", "shared", "after_pass"] spBest := by
  refine D.F.ok sc_bestdeed (fun vs H Q E h => ?_) (fun cdv A outer s H vs Q E hr h => ?_)
  · obtain ⟨a, b, c, p, rfl, _⟩ := h
    rfl
  · obtain ⟨a, b, c, p, rfl, q⟩ := h
    refine ⟨_, (pss_cons (ps_set (i := 4) sc_bestdeed.nd rfl (.inl rfl) (pe_call G_valuebyrule (hr.mono (by omega)) (by rfl) D_valuebyrule.g D_valuebyrule.F.kp D_valuebyrule.b .nil pass0 (pa_cons (pv 0) (pa_cons (pv 1) (pa_cons (pv 2) (pa_cons (pv 3) pa_nil))))))
      (pss_cons (ps_if (PW.pt (pw_and (pt_val (pv 3)) (pw_and1 (pt_cmpR op_ne (pv 4) (pe_glob (v := .str (Str.ofString "wins")) (by rfl) gc_WINS ⟨_, rfl⟩) (nomark _))))) (pss_one (ps_ret (pe_glob (v := .str (Str.ofString "pass")) (by rfl) gc_PASS_DEED ⟨_, rfl⟩))) pss_nil)
      (pss_cons (ps_if (pt_cmpR op_ge (pv 1) pe_int (nomark _)) (pss_one (ps_ret (pe_glob (v := .str (Str.ofString "fill")) (by rfl) gc_FILL ⟨_, rfl⟩))) pss_nil)
      (pss_cons (ps_if (pt_cmpR op_eq (pv 4) (pe_glob (v := .str (Str.ofString "wins")) (by rfl) gc_WINS ⟨_, rfl⟩) (nomark _)) (pss_one (ps_ret (pe_glob (v := .str (Str.ofString "share")) (by rfl) gc_SHARE ⟨_, rfl⟩))) pss_nil)
      (pss_one (ps_ret (pe_glob (v := .str (Str.ofString "pass")) (by rfl) gc_PASS_DEED ⟨_, rfl⟩))))))), ?_⟩
    walk_at "st"
    refine ⟨a, b, c, p, rfl, ?_⟩
    unfold bestD at q
    walk_at "st"
    have rest : ¬ (p = true ∧ ¬ valR a b c p = Str.ofString "wins") → Q (.str (if 1 ≤ b then Deed.fill else if valR a b c p = Str.ofString "wins" then .share else .pass).str) H := fun hn => by
      rw [if_neg hn] at q
      exact q
    refine ite2 (fun e1 => ite2 (fun e2 => ?_) (fun e2 => ?_)) (fun e1 => ?_)
    · rw [if_pos ⟨e1, e2⟩] at q
      exact q
    all_goals
      have rest := rest (by first | exact fun z => e2 z.2 | exact fun z => e1 z.1)
      walk_at "st"
      refine ite2 (fun h => by rw [if_pos h] at rest; exact rest) (fun h => ?_)
      rw [if_neg h] at rest
      walk_at "st"
      refine ite2 (fun h2 => by rw [if_pos h2] at rest; exact rest) (fun h2 => by rw [if_neg h2] at rest; walk_at "rt"; exact rest)
theorem ok_racebest {C f f_cr f_bd : Addr} {fd fd_cr fd_bd : FuncData} {t : Tok} (D : Dk K mg "race_best" s_racebest f fd) (D_checkrace : Dn K mg "check_race" s_checkrace ["own", "other", "shared", "most"] f_cr fd_cr) (D_bestdeed : Dn K mg "best_deed" s_bestdeed ["own", "other", "shared", "after_pass"] f_bd fd_bd)
    (gc_MOST_FREE_PLACES : mg "MOST_FREE_PLACES" = some (.int 1000000 t))
    (G_checkrace : FnOk P w K mg base (L2N.CX P w) 5 f_cr fd_cr ["own", "other", "shared", "most"] (spBounds C fault)) (G_bestdeed : FnOk P w K mg base CX0 2 f_bd fd_bd ["own", "other", "shared", "after_pass"] spBest) : FnOk P w K mg base (L2N.CX P w) 6 f fd ["own", "other", "shared", "after_pass"] (spRaceBest C) := by
  refine okN D.F sc_racebest (fun vs H Q E h => ?_) (fun cdv A outer s H vs Q E hr h => ?_)
  · obtain ⟨p, x, y, z, rfl, _⟩ := h
    rfl
  · obtain ⟨p, x, y, z, rfl, tx, ty, tz, h1, h2⟩ := h
    refine ⟨_, (pss_cons (ps_expr (pe_callS G_checkrace (hr.mono (by omega)) rfl D_checkrace.g D_checkrace.F.kp D_checkrace.b (fun σ => L2N.passAt (L2N.takes_of rfl rfl rfl rfl) σ) (pa_cons (pv 0) (pa_cons (pv 1) (pa_cons (pv 2) (pa_cons (pe_glob (v := .int 1000000) (by rfl) gc_MOST_FREE_PLACES ⟨_, rfl⟩) pa_nil))))))
      (pss_one (ps_ret (pe_call G_bestdeed (hr.mono (by omega)) (by rfl) D_bestdeed.g D_bestdeed.F.kp D_bestdeed.b .nil pass0 (pa_cons (pv 0) (pa_cons (pv 1) (pa_cons (pv 2) (pa_cons (pv 3) pa_nil)))))))), ?_⟩
    walk_at "st"
    refine ⟨_, _, _, _, rfl, tx, ty, tz, fun f1 => ?_, h2⟩
    obtain ⟨a, b, c, rfl, rfl, rfl, R⟩ := fault_none f1
    walk_at "rt"
    exact ⟨a, b, c, p, rfl, h1 a b c R rfl rfl rfl⟩
end
end K01
namespace K01
open PySem PySem.Spec PyProof.Rows L2 TL HotExc
/-! ### the walk by best deeds -/
abbrev St4 := Int × Int × Int × Bool
def dd (s : St4) : Deed := bestD s.1 s.2.1 s.2.2.1 s.2.2.2
def ends (s : St4) : Bool := (isPass (dd s) && s.2.2.2) || decide ((dd s).takes s.1 s.2.1 s.2.2.1)
def nxt (s : St4) : St4 := (((dd s).left s.1 s.2.1 s.2.2.1).2.1, ((dd s).left s.1 s.2.1 s.2.2.1).1, ((dd s).left s.1 s.2.1 s.2.2.1).2.2, isPass (dd s))
def wlk : Nat → St4 → List St4
  | 0, _ => []
  | n + 1, s => s :: (if ends s = true then [] else wlk n (nxt s))
def mes (s : St4) : Nat := (2 * (s.1 + s.2.1 + s.2.2.1)).toNat - (if s.2.2.2 = true then 1 else 0)
def RaceS (s : St4) : Prop := Race 30 s.1 s.2.1 s.2.2.1
def rkS (s : St4) : Nat := rk s.1 s.2.1 s.2.2.1 s.2.2.2
theorem mes_pos {s : St4} (R : RaceS s) : 1 ≤ mes s := by
  obtain ⟨a, b, c, p⟩ := s
  have := R.ac
  have := R.bc
  have := R.a0
  have := R.b0
  have := R.c0
  unfold mes
  simp only at *
  split <;> omega
theorem best_open {s : St4} (R : RaceS s) : (dd s).open s.1 s.2.1 s.2.2.1 = true := (best_reach (p := s.2.2.2) R).1
theorem best_rr {s : St4} (R : RaceS s) : rr (dd s) s.1 s.2.1 s.2.2.1 s.2.2.2 = rkS s := (best_reach (p := s.2.2.2) R).2
theorem nxt_race {s : St4} (R : RaceS s) (h : ends s = false) : RaceS (nxt s) := by
  unfold ends at h
  rw [Bool.or_eq_false_iff, decide_eq_false_iff_not] at h
  exact race_next R (dd s) (best_open R) h.2
theorem nxt_mes {s : St4} (R : RaceS s) (h : ends s = false) : mes (nxt s) < mes s := by
  unfold ends at h
  rw [Bool.or_eq_false_iff, decide_eq_false_iff_not] at h
  have ho := best_open R
  obtain ⟨a, b, c, p⟩ := s
  have := R.ac
  have := R.bc
  have := R.a0
  have := R.b0
  have := R.c0
  unfold mes nxt
  generalize dd (a, b, c, p) = d at ho h
  simp only at *
  cases d with
  | fill =>
    rw [open_fill] at ho
    rw [show isPass Deed.fill = false from s_ne6]
    simp only [Deed.left, Bool.false_eq_true, if_false]
    split <;> omega
  | share =>
    rw [open_share] at ho
    rw [show isPass Deed.share = false from s_ne7]
    simp only [Deed.left, Bool.false_eq_true, if_false]
    split <;> omega
  | own =>
    rw [open_own] at ho
    rw [show isPass Deed.own = false from s_ne8]
    simp only [Deed.left, Bool.false_eq_true, if_false]
    split <;> omega
  | pass =>
    have e : isPass Deed.pass = true := decide_eq_true rfl
    rw [e, Bool.true_and] at h
    rw [e, h.1]
    simp only [Deed.left, if_true, Bool.false_eq_true, if_false]
    omega
/-- the rank at the next race -/
theorem nxt_rk {s : St4} (R : RaceS s) (h : ends s = false) : rkS (nxt s) = 2 - rkS s := by
  have e := best_rr R
  unfold ends at h
  rw [Bool.or_eq_false_iff, decide_eq_false_iff_not] at h
  unfold rr at e
  rw [if_neg h.2, if_neg (fun z => by rw [z.1, z.2] at h; cases h.1)] at e
  have l := rk_le (nxt s).1 (nxt s).2.1 (nxt s).2.2.1 (nxt s).2.2.2
  have e2 : 2 - rkS (nxt s) = rkS s := e
  unfold rkS at *
  omega
theorem end_peace {s : St4} (R : RaceS s) (h1 : isPass (dd s) = true) (h2 : s.2.2.2 = true) : rkS s = 1 := by
  rw [← best_rr R]
  unfold rr
  have nt : ¬ (dd s).takes s.1 s.2.1 s.2.2.1 := fun tk => by
    have hd : dd s = .pass := by
      have h1 : (dd s).str = Str.ofString "pass" := of_decide_eq_true h1
      generalize dd s = d at h1
      cases d with
      | pass => rfl
      | fill => exact absurd h1 (by decide +kernel)
      | share => exact absurd h1 (by decide +kernel)
      | own => exact absurd h1 (by decide +kernel)
    rw [hd] at tk
    have tk : s.2.1 + s.2.2.1 = 0 := tk
    have := R.bc
    omega
  rw [if_neg nt, if_pos ⟨h1, h2⟩]
theorem end_take {s : St4} (R : RaceS s) (h : (dd s).takes s.1 s.2.1 s.2.2.1) : rkS s = 0 := by
  rw [← best_rr R]
  unfold rr
  rw [if_pos h]
/-- what the rank at a later race says of the first one -/
def back (k n : Nat) : Nat := if k % 2 = 0 then n else 2 - n
theorem wlk_succ {n : Nat} {s : St4} : wlk (n + 1) s = s :: (if ends s = true then [] else wlk n (nxt s)) := rfl
theorem wlk_more {n : Nat} {s : St4} (h : ends s = false) : wlk (n + 1) s = s :: wlk n (nxt s) := by
  rw [wlk_succ, if_neg (by rw [h]; decide)]
theorem wlk_end {n : Nat} {s : St4} (h : ends s = true) : wlk (n + 1) s = [s] := by
  rw [wlk_succ, if_pos h]
theorem wlk_len : ∀ (n : Nat) (s : St4), (wlk n s).length ≤ n
  | 0, _ => Nat.le_refl _
  | n + 1, s => by
    rw [wlk_succ]
    split
    · simp
    · rw [List.length_cons]
      have := wlk_len n (nxt s)
      omega
def Wk (a b c : Int) : List St4 := wlk (2 * (a + b + c)).toNat (a, b, c, false)
theorem mes_start (a b c : Int) : mes (a, b, c, false) = (2 * (a + b + c)).toNat := by
  unfold mes
  simp only [Bool.false_eq_true, if_false]
  omega
theorem Wk_len {a b c : Int} (R : Race 30 a b c) : (Wk a b c).length ≤ 200 := by
  have := wlk_len (2 * (a + b + c)).toNat (a, b, c, false)
  have := R.a1
  have := R.b1
  have := R.c1
  unfold Wk
  omega
/-- a place within the walk: what is done, the race now, the turns left -/
structure Within2 (s0 : St4) (done : List St4) (s : St4) (n : Nat) : Prop where
  split : wlk (mes s0) s0 = done ++ wlk n s
  left : mes s ≤ n
  race : RaceS s
  rank : rkS s0 = back done.length (rkS s)
theorem back_step {k n m : Nat} (hn : n ≤ 2) (h : m = 2 - n) : back (k + 1) m = back k n := by
  unfold back
  rcases Nat.mod_two_eq_zero_or_one k with e | e
  · rw [if_neg (by omega), if_pos e]
    omega
  · rw [if_pos (by omega), if_neg (by omega)]
    omega
theorem Within2.next {s0 s : St4} {done : List St4} {n : Nat} (w : Within2 s0 done s n) (h : ends s = false) : ∃ n', n = n' + 1 ∧ Within2 s0 (done ++ [s]) (nxt s) n' := by
  have p := mes_pos w.race
  have l := w.left
  obtain ⟨n', rfl⟩ : ∃ n', n = n' + 1 := ⟨n - 1, by omega⟩
  have m := nxt_mes w.race h
  refine ⟨n', rfl, ?_, by omega, nxt_race w.race h, ?_⟩
  · rw [w.split, wlk_more h, List.append_assoc]
    rfl
  · rw [w.rank, List.length_append, List.length_singleton]
    exact (back_step (rk_le ..) (nxt_rk w.race h)).symm
theorem Within2.last {s0 s : St4} {done : List St4} {n : Nat} (w : Within2 s0 done s n) (h : ends s = true) : wlk (mes s0) s0 = done ++ [s] := by
  have p := mes_pos w.race
  have l := w.left
  obtain ⟨n', rfl⟩ : ∃ n', n = n' + 1 := ⟨n - 1, by omega⟩
  rw [w.split, wlk_end h]
theorem Within2.start {s0 : St4} (R : RaceS s0) : Within2 s0 [] s0 (mes s0) := ⟨rfl, Nat.le_refl _, R, by unfold back; rfl⟩
end K01
namespace K01
open PySem PySem.Spec PyProof.Rows L2 TL HotExc
local macro_rules | `(tactic| walk_at "rd") => `(tactic| simp only [start1, wipe, isR, isBool, isInt, isStr, isLst, isTup, tAsg, gName, gSub, tVar, tC, tOp, tUn, tTest, tIfS, tRet, tRetN, tDrop, tB, tAnd, tOr, tNot, tAndV, tOrV, tNotV, tIf, tCB, tCons, tNil, tNext, tCall, tBM, tTup, tLst, rU, rInW, rNinW, Int.reduceNeg, tG, tG2, sP, tDisp, tPairs, tCallS, tCallSD, tCallT, StX.tStar, tCallK, tCallKS, rTupOf, tDrop, rI0, rI, rEq, rNe, scal, forR_eq, forR2_eq, forS_eq, forL_eq, lcT_eq, lcRT_eq, lcS_eq, rLenX, rLenS, rListOf, tRevL, rMulS, rRepL, rCatL, tPart, tNoPart, CwR.tReplC, rAllK, rInSg, rNinSg, sgn_inj, rAddS, rInSt, tChain, tM1, tM0, rSplitN, rJoinN, exists_eq, rIntI, rIntB, rIntS, rStrI, rAbs, rOrd, rMin, rMax, rIxL, rIxX, rSetL, rAppend, rIxS, rSlS, rSlL, tSl, List.map_cons, List.map_nil, List.replicate_succ, List.replicate_zero, List.length_cons, List.length_nil, Nat.reduceSub, Nat.reduceAdd, Nat.zero_add, Nat.sub_self, List.getElem?_cons_zero, List.getElem?_cons_succ, List.set_cons_zero, List.set_cons_succ, List.append_nil, List.nil_append, List.cons_append, Option.some.injEq, not_true_eq_false, reduceCtorEq, exists_eq_left', exists_eq_left, exists_eq', exists_and_left, exists_and_right, V.int.injEq, V.str.injEq, V.bl.injEq, V.ref.injEq, List.cons.injEq, and_true, true_and, and_assoc, decide_eq_true_eq, Bool.not_eq_true', decide_eq_false_iff_not, ite_true, ite_false, if_true, if_false, Bool.not_true, Bool.not_false, Bool.false_eq_true, eq_self_iff_true, reduceIte, ne_eq, Int.reduceEq, not_false_eq_true])
local macro_rules | `(tactic| walk_at "rt") => `(tactic| try walk_at "rd")
local macro_rules | `(tactic| walk_at "st") => `(tactic| (walk_at "rt"; refine r_seq ?_; walk_at "rt"))
local macro_rules | `(tactic| walk_at "hp") => `(tactic| first | assumption | exact upd_same | (rw [upd_ne (by assumption)]; walk_at "hp"))
local macro_rules | `(tactic| walk_at "ex1") => `(tactic| ((with_reducible refine Exists.intro ?w (And.intro ?hx ?_)); (case hx => first | exact sq_of (by walk_at "hp") | exact .inl (sq_of (by walk_at "hp")) | exact rfl | (show _ = some (HO.lst _); walk_at "hp"))))
local macro_rules | `(tactic| walk_at "ex") => `(tactic| repeat (first | walk_at "ex1" | walk_at "rd"))
abbrev s_raceline : Stmt := topS 21
theorem sc_raceline : FnScope ["own", "other", "shared", "race", "after_pass", "deeds", "deed"] ["own", "other", "shared"] (defScope s_raceline) := ⟨rfl, rfl, rfl, by decide +kernel, rfl, by decide +kernel, by decide +kernel⟩
abbrev sv (s : St4) : V := .str (dd s).str
def spLine (C : Addr) : Sp := spRaced C 30 [] fun a b c H Q => ∀ u l H', Keeps H H' → H l = none → H' l = some (.lst ((Wk a b c).map sv)) → H' u = some (.tup [.ref l, .str (nm (rk a b c false))]) → Q (.ref u) H'
section
variable {P : Program} {w : World} {K : PySem.W.Frag} {mg : Str → Option Value} {base : Heap}
theorem ok_raceline {C f f_cr f_bd f_ad : Addr} {fd fd_cr fd_bd fd_ad : FuncData} {t t1 t2 t3 t4 : Tok} (D : Dn K mg "race_line" s_raceline ["own", "other", "shared"] f fd) (D_checkrace : Dn K mg "check_race" s_checkrace ["own", "other", "shared", "most"] f_cr fd_cr)
    (D_bestdeed : Dn K mg "best_deed" s_bestdeed ["own", "other", "shared", "after_pass"] f_bd fd_bd) (D_afterdeed : Dn K mg "after_deed" s_afterdeed ["own", "other", "shared", "deed"] f_ad fd_ad) (B : Bi mg)
    (gc_MOST_IN_LINE : mg "MOST_IN_LINE" = some (.int 30 t)) (gc_WINS : mg "WINS" = some (.str (Str.ofString "wins") t1)) (gc_LOSES : mg "LOSES" = some (.str (Str.ofString "loses") t2)) (gc_PEACE : mg "PEACE" = some (.str (Str.ofString "peace") t3)) (gc_PASS_DEED : mg "PASS_DEED" = some (.str (Str.ofString "pass") t4))
    (G_checkrace : FnOk P w K mg base (L2N.CX P w) 5 f_cr fd_cr ["own", "other", "shared", "most"] (spBounds C fault)) (G_bestdeed : FnOk P w K mg base CX0 2 f_bd fd_bd ["own", "other", "shared", "after_pass"] spBest) (G_afterdeed : FnOk P w K mg base CX0 1 f_ad fd_ad ["own", "other", "shared", "deed"] spAfter) : FnOk P w K mg base (L2N.CX P w) 6 f fd ["own", "other", "shared"] (spLine C) := by
  refine okN D.F sc_raceline (fun vs H Q E h => ?_) (fun cdv A outer s H vs Q E hr h => ?_)
  · obtain ⟨x, y, z, rfl, _⟩ := h
    rfl
  · obtain ⟨x, y, z, rfl, tx, ty, tz, h1, h2⟩ := h
    refine ⟨_, (pss_cons (ps_expr (pe_callS G_checkrace (hr.mono (by omega)) rfl D_checkrace.g D_checkrace.F.kp D_checkrace.b (fun σ => L2N.passAt (L2N.takes_of rfl rfl rfl rfl) σ) (pa_cons (pv 0) (pa_cons (pv 1) (pa_cons (pv 2) (pa_cons (pe_glob (v := .int 30) (by rfl) gc_MOST_IN_LINE ⟨_, rfl⟩) pa_nil))))))
      (pss_cons (ps_set (i := 3) sc_raceline.nd rfl (.inl rfl) (pe_tup (pa_cons (pv 0) (pa_cons (pv 1) (pa_cons (pv 2) pa_nil)))))
      (pss_cons (ps_set (i := 4) sc_raceline.nd rfl (.inl rfl) pe_bl)
      (pss_cons (ps_set (i := 5) sc_raceline.nd rfl (.inl rfl) (pe_lst pa_nil))
      (pss_cons (ps_while PassesOwn.leaving (pt_cmpR op_notN (pv 3) pe_non (nomark _)) (pss_cons (ps_set (i := 6) sc_raceline.nd rfl (.inl rfl) (pe_callT G_bestdeed (hr.mono (by omega)) (by rfl) D_bestdeed.g D_bestdeed.F.kp D_bestdeed.b pass0 (StX.pa_star (pv 3) (pa_cons (pv 4) pa_nil))))
      (pss_cons (ps_expr (pe_bm PySem.F.plainAttrs_list PySem.F.slot_list_append PySem.F.type_list_append mt_append (pv 5) (pa_cons (pv 6) pa_nil)))
      (pss_cons (ps_if (PW.pt (pw_and (pt_val (pv 4)) (pw_and1 (pt_cmpR op_eq (pv 6) (pe_glob (v := .str (Str.ofString "pass")) (by rfl) gc_PASS_DEED ⟨_, rfl⟩) (nomark _))))) (pss_one (ps_ret (pe_tup (pa_cons (pv 5) (pa_cons (pe_glob (v := .str (Str.ofString "peace")) (by rfl) gc_PEACE ⟨_, rfl⟩) pa_nil))))) pss_nil)
      (pss_cons (ps_set (i := 3) sc_raceline.nd rfl (.inl rfl) (pe_callT G_afterdeed (hr.mono (by omega)) (by rfl) D_afterdeed.g D_afterdeed.F.kp D_afterdeed.b pass0 (StX.pa_star (pv 3) (pa_cons (pv 6) pa_nil))))
      (pss_one (ps_set (i := 4) sc_raceline.nd rfl (.inl rfl) (pe_cmpR op_eq (pv 6) (pe_glob (v := .str (Str.ofString "pass")) (by rfl) gc_PASS_DEED ⟨_, rfl⟩) (nomark _)))))))))
      (pss_one (ps_ret (pe_tup (pa_cons (pv 5) (pa_cons (pe_ifExp (pt_cmpR op_eq (pe_op op_modN (pe_callB (call_lenXK (K := K)) (by rfl) B.len PySem.boot_len (pa_cons (pv 5) pa_nil)) pe_int) pe_int (nomark _)) (pe_glob (v := .str (Str.ofString "wins")) (by rfl) gc_WINS ⟨_, rfl⟩) (pe_glob (v := .str (Str.ofString "loses")) (by rfl) gc_LOSES ⟨_, rfl⟩)) pa_nil)))))))))), ?_⟩
    walk_at "st"
    refine ⟨_, _, _, _, rfl, tx, ty, tz, fun f1 => ?_, h2⟩
    obtain ⟨a, b, c, rfl, rfl, rfl, R⟩ := fault_none f1
    have h1 : ∀ u l H', Keeps H H' → H l = none → H' l = some (.lst ((Wk a b c).map sv)) → H' u = some (.tup [.ref l, .str (nm (rk a b c false))]) → Q (.ref u) H' := h1 a b c R rfl rfl rfl
    have wl := Wk_len R
    have e0 : Wk a b c = wlk (mes (a, b, c, false)) (a, b, c, false) := by rw [mes_start]; rfl
    rw [e0] at h1 wl
    have r0 : rk a b c false = rkS (a, b, c, false) := rfl
    rw [r0] at h1
    have R0 : RaceS (a, b, c, false) := R
    generalize hs0 : (a, b, c, false) = s0 at h1 wl R0
    walk_at "st"
    refine ⟨by decide, fun rt nrt => ?_⟩
    walk_at "st"
    walk_at "st"
    refine ⟨by decide, fun l nl => ?_⟩
    have nl0 : H l = none := Keeps.free (Keeps.new nrt) nl
    have k0 : Keeps H (L2.upd (L2.upd H rt (.tup [.int a, .int b, .int c])) l (.lst [])) := (Keeps.new nrt).put nl0
    have hrt : L2.upd (L2.upd H rt (.tup [.int a, .int b, .int c])) l (.lst []) rt = some (.tup [.int a, .int b, .int c]) := But0.new nl _ _ upd_same
    have hl0 : L2.upd (L2.upd H rt (.tup [.int a, .int b, .int c])) l (.lst []) l = some (.lst []) := upd_same
    generalize L2.upd (L2.upd H rt (.tup [.int a, .int b, .int c])) l (.lst []) = H1 at k0 hrt hl0 ⊢
    refine r_while (by first | exact mono_notN | trace_state) (fun m σ H' => Keeps H H' ∧ ((∃ (t : Addr) (s : St4) (n : Nat) (done : List St4) (x6 : Option V), m = n + 1 ∧ σ = [some (.int a), some (.int b), some (.int c), some (.ref t), some (.bl s.2.2.2), some (.ref l), x6] ∧ H' t = some (.tup [.int s.1, .int s.2.1, .int s.2.2.1]) ∧ Within2 s0 done s n ∧ H' l = some (.lst (done.map sv))) ∨
      (m = 0 ∧ ∃ (done : List St4) (s : St4) (x4 x6 : Option V), σ = [some (.int a), some (.int b), some (.int c), some .non, x4, some (.ref l), x6] ∧ wlk (mes s0) s0 = done ++ [s] ∧ rkS s0 = back done.length 0 ∧ H' l = some (.lst ((done ++ [s]).map sv))))) ⟨_, k0, .inl ⟨rt, s0, _, [], none, rfl, by rw [← hs0], by rw [← hs0]; exact hrt, .start R0, hl0⟩⟩ ?_
    rintro m σ H2 ⟨k2, ⟨t, s, n, done, x6, rfl, rfl, ht, wi, hl⟩ | ⟨rfl, done, s, x4, x6, rfl, hw, hrk, hl⟩⟩ N kN
    · have dl : done.length ≤ 200 := by
        have := congrArg List.length wi.split
        rw [List.length_append] at this
        omega
      walk_at "rt"
      walk_at "st"
      refine ⟨_, .inl (.inl (.inl ht)), _, _, _, _, rfl, ?_⟩
      walk_at "st"
      refine ⟨.inl ⟨rfl, _, sq_of hl⟩, _, hl, size_ok (by rw [List.length_map]; omega), ?_⟩
      have k3 : Keeps H (L2.upd H2 l (.lst (done.map sv ++ [V.str (bestD s.1 s.2.1 s.2.2.1 s.2.2.2).str]))) := k2.put nl0
      have ht3 : L2.upd H2 l (.lst (done.map sv ++ [V.str (bestD s.1 s.2.1 s.2.2.1 s.2.2.2).str])) t = some (.tup [.int s.1, .int s.2.1, .int s.2.2.1]) := (upd_ne (fun z => by rw [z, hl] at ht; cases ht)).trans ht
      have hl3 : L2.upd H2 l (.lst (done.map sv ++ [V.str (bestD s.1 s.2.1 s.2.2.1 s.2.2.2).str])) l = some (.lst ((done ++ [s]).map sv)) := upd_same.trans (by rw [List.map_append]; rfl)
      generalize L2.upd H2 l (.lst (done.map sv ++ [V.str (bestD s.1 s.2.1 s.2.2.1 s.2.2.2).str])) = H3 at k3 ht3 hl3 ⊢
      walk_at "st"
      have pe : isPass (dd s) = decide ((bestD s.1 s.2.1 s.2.2.1 s.2.2.2).str = Str.ofString "pass") := rfl
      have go : ends s = true ∧ isPass (dd s) = true ∧ s.2.2.2 = true ∨ ¬ (isPass (dd s) = true ∧ s.2.2.2 = true) := by
        by_cases h : isPass (dd s) = true ∧ s.2.2.2 = true
        · refine .inl ⟨?_, h⟩
          unfold ends
          rw [h.1, h.2]
          rfl
        · exact .inr h
      refine ite2 (fun e1 => ite2 (fun e2 => ?_) (fun e2 => ?_)) (fun e1 => ?_)
      · have h1' : isPass (dd s) = true := decide_eq_true e2
        have hen : ends s = true := by
          unfold ends
          rw [h1', e1]
          rfl
        have r1 := end_peace wi.race h1' e1
        have hr0 : rkS s0 = 1 := by
          rw [wi.rank, r1]
          unfold back
          split <;> rfl
        rw [wi.last hen, hr0] at h1
        exact ⟨by decide, fun u nu => h1 u l _ (k3.put (k3.free nu)) nl0 (But0.new nu _ _ hl3) upd_same⟩
      all_goals
        have np : ¬ (isPass (dd s) = true ∧ s.2.2.2 = true) := by first | exact fun z => e2 (of_decide_eq_true z.1) | exact fun z => e1 z.2
        walk_at "st"
        refine ⟨_, .inl (.inl (.inl ht3)), dd s, _, _, _, rfl, fun tk => ?_, fun nt u nu => ?_⟩
        · walk_at "rt"
          refine kN 0 _ _ (by omega) ⟨k3, .inr ⟨rfl, done, s, _, _, rfl, ?_, ?_, hl3⟩⟩
          · refine wi.last ?_
            unfold ends
            rw [decide_eq_true tk, Bool.or_true]
          · rw [wi.rank, end_take wi.race tk]
        · have hen : ends s = false := by
            unfold ends
            rw [decide_eq_false nt, Bool.or_false]
            cases h : isPass (dd s) && s.2.2.2 with
            | false => rfl
            | true => exact absurd (by simpa using h) np
          obtain ⟨n', rfl, wi'⟩ := wi.next hen
          walk_at "rt"
          exact kN (n' + 1) _ _ (by omega) ⟨k3.put (k3.free nu), .inl ⟨u, nxt s, n', done ++ [s], _, rfl, rfl, upd_same, wi', But0.new nu _ _ hl3⟩⟩
    · have dl : (done ++ [s]).length ≤ 200 := by
        rw [← hw]
        exact wl
      rw [hw, hrk] at h1
      walk_at "rt"
      refine ⟨_, .inl (sq_of hl), ?_⟩
      have fm2 : (((((done ++ [s]).map sv).length : Nat) : Int).fmod 2 = 1) ↔ done.length % 2 = 0 := by
        rw [List.length_map, List.length_append, List.length_singleton, Int.fmod_eq_emod_of_nonneg _ (by decide)]
        omega
      refine ite2 (fun e => ⟨by decide, fun u nu => ?_⟩) (fun e => ⟨by decide, fun u nu => ?_⟩)
      · refine h1 u l _ (k2.put (k2.free nu)) nl0 (But0.new nu _ _ hl) ?_
        rw [upd_same]
        unfold back
        rw [if_pos (fm2.mp e)]
        rfl
      · refine h1 u l _ (k2.put (k2.free nu)) nl0 (But0.new nu _ _ hl) ?_
        rw [upd_same]
        unfold back
        rw [if_neg (fun z => e (fm2.mpr z))]
        rfl
end
end K01
namespace K01
open PySem PySem.Spec PyProof.Rows L2 TL HotExc
local macro_rules | `(tactic| walk_at "rd") => `(tactic| simp only [start1, wipe, isR, isBool, isInt, isStr, isLst, isTup, tAsg, gName, gSub, tVar, tC, tOp, tUn, tTest, tIfS, tRet, tRetN, tDrop, tB, tAnd, tOr, tNot, tAndV, tOrV, tNotV, tIf, tCB, tCons, tNil, tNext, tCall, tBM, tTup, tLst, rU, rInW, rNinW, Int.reduceNeg, tG, tG2, sP, tDisp, tPairs, tCallS, tCallSD, tCallT, StX.tStar, tCallK, tCallKS, rTupOf, tDrop, rI0, rI, rEq, rNe, scal, forR_eq, forR2_eq, forS_eq, forL_eq, lcT_eq, lcRT_eq, lcS_eq, rLenX, rLenS, rListOf, tRevL, rMulS, rRepL, rCatL, tPart, tNoPart, CwR.tReplC, rAllK, rInSg, rNinSg, sgn_inj, rAddS, rInSt, tChain, tM1, tM0, rSplitN, rJoinN, exists_eq, rIntI, rIntB, rIntS, rStrI, rAbs, rOrd, rMin, rMax, rIxL, rIxX, rSetL, rAppend, rIxS, rSlS, rSlL, tSl, List.map_cons, List.map_nil, List.replicate_succ, List.replicate_zero, List.length_cons, List.length_nil, Nat.reduceSub, Nat.reduceAdd, Nat.zero_add, Nat.sub_self, List.getElem?_cons_zero, List.getElem?_cons_succ, List.set_cons_zero, List.set_cons_succ, List.append_nil, List.nil_append, List.cons_append, Option.some.injEq, not_true_eq_false, reduceCtorEq, exists_eq_left', exists_eq_left, exists_eq', exists_and_left, exists_and_right, V.int.injEq, V.str.injEq, V.bl.injEq, V.ref.injEq, List.cons.injEq, and_true, true_and, and_assoc, decide_eq_true_eq, Bool.not_eq_true', decide_eq_false_iff_not, ite_true, ite_false, if_true, if_false, Bool.not_true, Bool.not_false, Bool.false_eq_true, eq_self_iff_true, reduceIte, ne_eq, Int.reduceEq, not_false_eq_true])
local macro_rules | `(tactic| walk_at "rt") => `(tactic| try walk_at "rd")
local macro_rules | `(tactic| walk_at "st") => `(tactic| (walk_at "rt"; refine r_seq ?_; walk_at "rt"))
local macro_rules | `(tactic| walk_at "hp") => `(tactic| first | assumption | exact upd_same | (rw [upd_ne (by assumption)]; walk_at "hp"))
local macro_rules | `(tactic| walk_at "ex1") => `(tactic| ((with_reducible refine Exists.intro ?w (And.intro ?hx ?_)); (case hx => first | exact sq_of (by walk_at "hp") | exact .inl (sq_of (by walk_at "hp")) | exact rfl | (show _ = some (HO.lst _); walk_at "hp"))))
local macro_rules | `(tactic| walk_at "ex") => `(tactic| repeat (first | walk_at "ex1" | walk_at "rd"))
abbrev s_Lracevalue : Stmt := topS 42
theorem sc_Lracevalue : FnScope ["own", "other", "shared", "passed"] ["own", "other", "shared", "passed"] (defScope s_Lracevalue) := ⟨rfl, rfl, rfl, by decide +kernel, rfl, by decide +kernel, by decide +kernel⟩
section
variable {P : Program} {w : World} {K : PySem.W.Frag} {mg : Str → Option Value} {base : Heap}
theorem ok_Lracevalue {f : Addr} {fd : FuncData} (B : Bi mg) (D : Dn K mg "_law_race_value" s_Lracevalue ["own", "other", "shared", "passed"] f fd) : FnOk P w K mg base CX0 1 f fd ["own", "other", "shared", "passed"] spValR := by
  refine D.F.ok sc_Lracevalue (fun vs H Q E h => ?_) (fun cdv A outer s H vs Q E hr h => ?_)
  · obtain ⟨a, b, c, p, rfl, _⟩ := h
    rfl
  · obtain ⟨a, b, c, p, rfl, q⟩ := h
    refine ⟨_, (pss_cons (ps_if (pt_cmpR op_ge (pe_op op_sub (pv 0) (pv 1)) (pe_callB (call_maxI rfl) (by rfl) B.max (by decide +kernel) (pa_cons (pe_op op_sub (pv 2) pe_int) (pa_cons pe_int pa_nil))) (nomark _)) (pss_one (ps_ret pe_str)) pss_nil)
      (pss_cons (ps_if (PW.pt (pw_and (pt_cmpR op_ge (pe_op op_sub (pv 1) (pv 0)) (pe_callB (call_maxI rfl) (by rfl) B.max (by decide +kernel) (pa_cons (pv 2) (pa_cons pe_int pa_nil))) (nomark _)) (pw_and1 (pt_not (pt_val (pv 3)))))) (pss_one (ps_ret pe_str)) pss_nil)
      (pss_one (ps_ret pe_str)))), ?_⟩
    walk_at "st"
    unfold valR at q
    refine ite2 (fun e => ?_) (fun e => ?_)
    · rw [if_pos (by split at e <;> omega)] at q
      exact q
    rw [if_neg (by split at e <;> omega)] at q
    walk_at "st"
    refine ite2 (fun e1 => ?_) (fun e1 => ?_)
    · cases p with
      | false =>
        rw [if_pos ⟨by split at e1 <;> omega, rfl⟩] at q
        walk_at "rt"
        exact q
      | true =>
        rw [if_neg (fun z => by cases z.2)] at q
        walk_at "rt"
        exact q
    · rw [if_neg (fun z => e1 (by have := z.1; split <;> omega))] at q
      walk_at "rt"
      exact q
end
end K01
namespace K01
open PySem PySem.Spec PyProof.Rows L2 TL HotExc
local macro_rules | `(tactic| walk_at "rd") => `(tactic| simp only [start1, wipe, isR, isBool, isInt, isStr, isLst, isTup, tAsg, gName, gSub, tVar, tC, tOp, tUn, tTest, tIfS, tRet, tRetN, tDrop, tB, tAnd, tOr, tNot, tAndV, tOrV, tNotV, tIf, tCB, tCons, tNil, tNext, tCall, tBM, tTup, tLst, rU, rInW, rNinW, Int.reduceNeg, tG, tG2, sP, tDisp, tPairs, tCallS, tCallSD, tCallT, StX.tStar, tCallK, tCallKS, rTupOf, tDrop, rI0, rI, rEq, rNe, scal, forR_eq, forR2_eq, forS_eq, forL_eq, lcT_eq, lcRT_eq, lcS_eq, rLenX, rLenS, rListOf, tRevL, rMulS, rRepL, rCatL, tPart, tNoPart, CwR.tReplC, rAllK, rInSg, rNinSg, sgn_inj, rAddS, rInSt, tChain, tM1, tM0, rSplitN, rJoinN, exists_eq, rIntI, rIntB, rIntS, rStrI, rAbs, rOrd, rMin, rMax, rIxL, rIxX, rSetL, rAppend, rIxS, rSlS, rSlL, tSl, List.map_cons, List.map_nil, List.replicate_succ, List.replicate_zero, List.length_cons, List.length_nil, Nat.reduceSub, Nat.reduceAdd, Nat.zero_add, Nat.sub_self, List.getElem?_cons_zero, List.getElem?_cons_succ, List.set_cons_zero, List.set_cons_succ, List.append_nil, List.nil_append, List.cons_append, Option.some.injEq, not_true_eq_false, reduceCtorEq, exists_eq_left', exists_eq_left, exists_eq', exists_and_left, exists_and_right, V.int.injEq, V.str.injEq, V.bl.injEq, V.ref.injEq, List.cons.injEq, and_true, true_and, and_assoc, decide_eq_true_eq, Bool.not_eq_true', decide_eq_false_iff_not, ite_true, ite_false, if_true, if_false, Bool.not_true, Bool.not_false, Bool.false_eq_true, eq_self_iff_true, reduceIte, ne_eq, Int.reduceEq, not_false_eq_true])
local macro_rules | `(tactic| walk_at "rt") => `(tactic| try walk_at "rd")
local macro_rules | `(tactic| walk_at "st") => `(tactic| (walk_at "rt"; refine r_seq ?_; walk_at "rt"))
local macro_rules | `(tactic| walk_at "hp") => `(tactic| first | assumption | exact upd_same | (rw [upd_ne (by assumption)]; walk_at "hp"))
local macro_rules | `(tactic| walk_at "ex1") => `(tactic| ((with_reducible refine Exists.intro ?w (And.intro ?hx ?_)); (case hx => first | exact sq_of (by walk_at "hp") | exact .inl (sq_of (by walk_at "hp")) | exact rfl | (show _ = some (HO.lst _); walk_at "hp"))))
local macro_rules | `(tactic| walk_at "ex") => `(tactic| repeat (first | walk_at "ex1" | walk_at "rd"))
abbrev s_Lraceafter : Stmt := topS 43
theorem sc_Lraceafter : FnScope ["own", "other", "shared", "deed"] ["own", "other", "shared", "deed"] (defScope s_Lraceafter) := ⟨rfl, rfl, rfl, by decide +kernel, rfl, by decide +kernel, by decide +kernel⟩
abbrev s_Lracebest : Stmt := topS 44
theorem sc_Lracebest : FnScope ["own", "other", "shared", "passed", "value"] ["own", "other", "shared", "passed"] (defScope s_Lracebest) := ⟨rfl, rfl, rfl, by decide +kernel, rfl, by decide +kernel, by decide +kernel⟩
section
variable {P : Program} {w : World} {K : PySem.W.Frag} {mg : Str → Option Value} {base : Heap}
theorem ok_Lraceafter {f : Addr} {fd : FuncData} (D : Dn K mg "_law_race_after" s_Lraceafter ["own", "other", "shared", "deed"] f fd) : FnOk P w K mg base CX0 1 f fd ["own", "other", "shared", "deed"] spAfter := by
  refine D.F.ok sc_Lraceafter (fun vs H Q E h => ?_) (fun cdv A outer s H vs Q E hr h => ?_)
  · obtain ⟨d, a, b, c, rfl, _⟩ := h
    rfl
  · obtain ⟨d, a, b, c, rfl, h1, h2⟩ := h
    refine ⟨_, (C8.pss_cut (ps_if (pt_cmpR op_eq (pv 3) pe_str (nomark _)) (pss_one (ps_set (i := 1) sc_Lraceafter.nd rfl (.inl rfl) (pe_op op_sub (pv 1) pe_int))) pss_nil)
      (C8.pss_cut (ps_if (pt_cmpR op_eq (pv 3) pe_str (nomark _)) (pss_one (ps_set (i := 2) sc_Lraceafter.nd rfl (.inl rfl) (pe_op op_sub (pv 2) pe_int))) pss_nil)
      (C8.pss_cut (ps_if (pt_cmpR op_eq (pv 3) pe_str (nomark _)) (pss_one (ps_set (i := 0) sc_Lraceafter.nd rfl (.inl rfl) (pe_op op_sub (pv 0) pe_int))) pss_nil)
      (pss_cons (ps_if (pt_cmpR op_eq (pe_op op_add (pv 1) (pv 2)) pe_int (nomark _)) (pss_one (ps_ret pe_non)) pss_nil)
      (pss_one (ps_ret (pe_tup (pa_cons (pv 1) (pa_cons (pv 0) (pa_cons (pv 2) pa_nil)))))))))), ?_⟩
    refine r_cut (fun σ' H' => σ' = [some (.int a), some (.int (d.left a b c).2.1), some (.int c), some (.str d.str)] ∧ H' = H) (fun N k => ?_) ?_
    · walk_at "rt"
      refine ite2 (fun e => k _ _ ?_) (fun e => k _ _ ?_) <;> (cases d <;> first | exact ⟨rfl, rfl⟩ | exact absurd e (by decide +kernel) | exact absurd rfl e)
    rintro σ H ⟨rfl, rfl⟩
    refine r_cut (fun σ' H' => σ' = [some (.int a), some (.int (d.left a b c).2.1), some (.int (d.left a b c).2.2), some (.str d.str)] ∧ H' = H) (fun N k => ?_) ?_
    · walk_at "rt"
      refine ite2 (fun e => k _ _ ?_) (fun e => k _ _ ?_) <;> (cases d <;> first | exact ⟨rfl, rfl⟩ | exact absurd e (by decide +kernel) | exact absurd rfl e)
    rintro σ H ⟨rfl, rfl⟩
    refine r_cut (fun σ' H' => σ' = [some (.int (d.left a b c).1), some (.int (d.left a b c).2.1), some (.int (d.left a b c).2.2), some (.str d.str)] ∧ H' = H) (fun N k => ?_) ?_
    · walk_at "rt"
      refine ite2 (fun e => k _ _ ?_) (fun e => k _ _ ?_) <;> (cases d <;> first | exact ⟨rfl, rfl⟩ | exact absurd e (by decide +kernel) | exact absurd rfl e)
    rintro σ H ⟨rfl, rfl⟩
    walk_at "st"
    refine ite2 (fun e => h1 e) (fun e => ?_)
    walk_at "rt"
    exact ⟨by decide, fun u nu => h2 e u nu⟩
theorem ok_Lracebest {f f_vr : Addr} {fd fd_vr : FuncData} (D : Dn K mg "_law_race_best" s_Lracebest ["own", "other", "shared", "passed"] f fd) (D_Lracevalue : Dn K mg "_law_race_value" s_Lracevalue ["own", "other", "shared", "passed"] f_vr fd_vr)
    (G_Lracevalue : FnOk P w K mg base CX0 1 f_vr fd_vr ["own", "other", "shared", "passed"] spValR) : FnOk P w K mg base CX0 2 f fd ["own", "other", "shared", "passed"] spBest := by
  refine D.F.ok sc_Lracebest (fun vs H Q E h => ?_) (fun cdv A outer s H vs Q E hr h => ?_)
  · obtain ⟨a, b, c, p, rfl, _⟩ := h
    rfl
  · obtain ⟨a, b, c, p, rfl, q⟩ := h
    refine ⟨_, (pss_cons (ps_set (i := 4) sc_Lracebest.nd rfl (.inl rfl) (pe_call G_Lracevalue (hr.mono (by omega)) (by rfl) D_Lracevalue.g D_Lracevalue.F.kp D_Lracevalue.b .nil pass0 (pa_cons (pv 0) (pa_cons (pv 1) (pa_cons (pv 2) (pa_cons (pv 3) pa_nil))))))
      (pss_cons (ps_if (PW.pt (pw_and (pt_val (pv 3)) (pw_and1 (pt_cmpR op_ne (pv 4) pe_str (nomark _))))) (pss_one (ps_ret pe_str)) pss_nil)
      (pss_cons (ps_if (pt_cmpR op_ge (pv 1) pe_int (nomark _)) (pss_one (ps_ret pe_str)) pss_nil)
      (pss_cons (ps_if (pt_cmpR op_eq (pv 4) pe_str (nomark _)) (pss_one (ps_ret pe_str)) pss_nil)
      (pss_one (ps_ret pe_str)))))), ?_⟩
    walk_at "st"
    refine ⟨a, b, c, p, rfl, ?_⟩
    unfold bestD at q
    walk_at "st"
    have rest : ¬ (p = true ∧ ¬ valR a b c p = Str.ofString "wins") → Q (.str (if 1 ≤ b then Deed.fill else if valR a b c p = Str.ofString "wins" then .share else .pass).str) H := fun hn => by
      rw [if_neg hn] at q
      exact q
    refine ite2 (fun e1 => ite2 (fun e2 => ?_) (fun e2 => ?_)) (fun e1 => ?_)
    · rw [if_pos ⟨e1, e2⟩] at q
      exact q
    all_goals
      have rest := rest (by first | exact fun z => e2 z.2 | exact fun z => e1 z.1)
      walk_at "st"
      refine ite2 (fun h => by rw [if_pos h] at rest; exact rest) (fun h => ?_)
      rw [if_neg h] at rest
      walk_at "st"
      refine ite2 (fun h2 => by rw [if_pos h2] at rest; exact rest) (fun h2 => by rw [if_neg h2] at rest; walk_at "rt"; exact rest)
end
end K01
namespace K01
open PySem PySem.Spec PyProof.Rows L2 TL HotExc
local macro_rules | `(tactic| walk_at "rd") => `(tactic| simp only [start1, wipe, isR, isBool, isInt, isStr, isLst, isTup, tAsg, gName, gSub, tVar, tC, tOp, tUn, tTest, tIfS, tRet, tRetN, tDrop, tB, tAnd, tOr, tNot, tAndV, tOrV, tNotV, tIf, tCB, tCons, tNil, tNext, tCall, tBM, tTup, tLst, rU, rInW, rNinW, Int.reduceNeg, tG, tG2, sP, tDisp, tPairs, tCallS, tCallSD, tCallT, StX.tStar, tCallK, tCallKS, rTupOf, tDrop, rI0, rI, rEq, rNe, scal, forR_eq, forR2_eq, forS_eq, forL_eq, lcT_eq, lcRT_eq, lcS_eq, rLenX, rLenS, rListOf, tRevL, rMulS, rRepL, rCatL, tPart, tNoPart, CwR.tReplC, rAllK, rInSg, rNinSg, sgn_inj, rAddS, rInSt, tChain, tM1, tM0, rSplitN, rJoinN, exists_eq, rIntI, rIntB, rIntS, rStrI, rAbs, rOrd, rMin, rMax, rIxL, rIxX, rSetL, rAppend, rIxS, rSlS, rSlL, tSl, List.map_cons, List.map_nil, List.replicate_succ, List.replicate_zero, List.length_cons, List.length_nil, Nat.reduceSub, Nat.reduceAdd, Nat.zero_add, Nat.sub_self, List.getElem?_cons_zero, List.getElem?_cons_succ, List.set_cons_zero, List.set_cons_succ, List.append_nil, List.nil_append, List.cons_append, Option.some.injEq, not_true_eq_false, reduceCtorEq, exists_eq_left', exists_eq_left, exists_eq', exists_and_left, exists_and_right, V.int.injEq, V.str.injEq, V.bl.injEq, V.ref.injEq, List.cons.injEq, and_true, true_and, and_assoc, decide_eq_true_eq, Bool.not_eq_true', decide_eq_false_iff_not, ite_true, ite_false, if_true, if_false, Bool.not_true, Bool.not_false, Bool.false_eq_true, eq_self_iff_true, reduceIte, ne_eq, Int.reduceEq, not_false_eq_true])
local macro_rules | `(tactic| walk_at "rt") => `(tactic| try walk_at "rd")
local macro_rules | `(tactic| walk_at "st") => `(tactic| (walk_at "rt"; refine r_seq ?_; walk_at "rt"))
local macro_rules | `(tactic| walk_at "hp") => `(tactic| first | assumption | exact upd_same | (rw [upd_ne (by assumption)]; walk_at "hp"))
local macro_rules | `(tactic| walk_at "ex1") => `(tactic| ((with_reducible refine Exists.intro ?w (And.intro ?hx ?_)); (case hx => first | exact sq_of (by walk_at "hp") | exact .inl (sq_of (by walk_at "hp")) | exact rfl | (show _ = some (HO.lst _); walk_at "hp"))))
local macro_rules | `(tactic| walk_at "ex") => `(tactic| repeat (first | walk_at "ex1" | walk_at "rd"))
abbrev s_lineasked : Stmt := topS 45
theorem sc_lineasked : FnScope ["row", "e", "alone", "good"] ["row"] (defScope s_lineasked) := ⟨rfl, rfl, rfl, by decide +kernel, rfl, by decide +kernel, by decide +kernel⟩
abbrev s_walkof : Stmt := topS 46
theorem sc_walkof : FnScope ["row", "many", "steps", "passed", "k", "deed"] ["row", "many"] (defScope s_walkof) := ⟨rfl, rfl, rfl, by decide +kernel, rfl, by decide +kernel, by decide +kernel⟩
abbrev s_walkagrees : Stmt := topS 47
theorem sc_walkagrees : FnScope ["walk", "turned", "k", "row", "passed"] ["walk"] (defScope s_walkagrees) := ⟨rfl, rfl, rfl, by decide +kernel, rfl, by decide +kernel, by decide +kernel⟩
def spLineAsked : Sp := fun vs H Q _ => ∃ t x y z, vs = [.ref t] ∧ H t = some (.tup [x, y, z]) ∧ Thing x ∧ Thing y ∧ Thing z ∧
  (∀ a b c, Race 30 a b c → x = .int a → y = .int b → z = .int c → ∀ v u l H', Keeps H H' → H' l = some (.lst ((Wk a b c).map sv)) → H' u = some (.tup [.ref l, .str (nm (rk a b c false))]) → H' v = some (.tup [.str (Str.ofString "gave"), .ref u]) → Q (.ref v) H') ∧
  (∀ wh v, fault x y z 30 = some (wh, v) → ∀ u r H', Keeps H H' → H' r = some (.tup [.str wh, v]) → H' u = some (.tup [.str (Str.ofString "raised"), .str (Str.ofString "BadNumber"), .ref r, .bl true]) → Q (.ref u) H')
/-- a step of the walk at v -/
def StepAt (H : Hp) (s : St4) (v : V) : Prop := ∃ r row, v = .ref r ∧ H r = some (.tup [.ref row, .bl s.2.2.2, sv s]) ∧ H row = some (.tup [.int s.1, .int s.2.1, .int s.2.2.1])
theorem StepAt.keep {H H' : Hp} {s : St4} {v : V} (h : StepAt H s v) (k : Keeps H H') : StepAt H' s v := by
  obtain ⟨r, row, e, h1, h2⟩ := h
  exact ⟨r, row, e, k _ _ h1, k _ _ h2⟩
theorem StepAt.but {H H' : Hp} {s : St4} {v : V} {x : Addr} {xs : List V} (h : StepAt H s v) (k : But x H H') (hx : H x = some (.lst xs)) : StepAt H' s v := by
  obtain ⟨r, row, e, h1, h2⟩ := h
  exact ⟨r, row, e, k _ _ (fun z => by rw [z, hx] at h1; cases h1) h1, k _ _ (fun z => by rw [z, hx] at h2; cases h2) h2⟩
/-- the steps of the walk in a list -/
def StepsAt (H : Hp) (ss : List St4) (vs : List V) : Prop := vs.length = ss.length ∧ ∀ (i : Nat) (s : St4) (v : V), ss[i]? = some s → vs[i]? = some v → StepAt H s v
theorem StepsAt.keep {H H' : Hp} {ss : List St4} {vs : List V} (h : StepsAt H ss vs) (k : Keeps H H') : StepsAt H' ss vs := ⟨h.1, fun i s v e1 e2 => (h.2 i s v e1 e2).keep k⟩
theorem StepsAt.but {H H' : Hp} {ss : List St4} {vs : List V} {x : Addr} {xs : List V} (h : StepsAt H ss vs) (k : But x H H') (hx : H x = some (.lst xs)) : StepsAt H' ss vs := ⟨h.1, fun i s v e1 e2 => (h.2 i s v e1 e2).but k hx⟩
theorem StepsAt.snoc {H : Hp} {ss : List St4} {vs : List V} {s : St4} {v : V} (h : StepsAt H ss vs) (h2 : StepAt H s v) : StepsAt H (ss ++ [s]) (vs ++ [v]) := by
  refine ⟨by rw [List.length_append, List.length_append, h.1]; rfl, fun i s' v' e1 e2 => ?_⟩
  by_cases hi : i < ss.length
  · rw [List.getElem?_append_left hi] at e1
    rw [List.getElem?_append_left (by rw [h.1]; exact hi)] at e2
    exact h.2 i s' v' e1 e2
  · rw [List.getElem?_append_right (by omega)] at e1
    rw [List.getElem?_append_right (by rw [h.1]; omega)] at e2
    rw [h.1] at e2
    have i0 : i - ss.length = 0 := by
      have := lt_of_get e1
      rw [List.length_singleton] at this
      omega
    rw [i0] at e1 e2
    cases e1
    cases e2
    exact h2
def WalkAt (H : Hp) (u : Addr) (a b c : Int) : Prop := ∃ l vs, H u = some (.tup [.ref l, .str (nm (rk a b c false))]) ∧ H l = some (.lst vs) ∧ StepsAt H (Wk a b c) vs
def turnD : List (Key × V) := [(Sum.inr (Str.ofString "wins"), .str (nm 2)), (Sum.inr (Str.ofString "loses"), .str (nm 0)), (Sum.inr (Str.ofString "peace"), .str (nm 1))]
theorem turn_at (n : Nat) (h : n ≤ 2) : valV turnD (Sum.inr (nm n)) = some (.str (nm (2 - n))) := by
  match n, h with
  | 0, _ => rfl
  | 1, _ => rfl
  | 2, _ => rfl
theorem back_next {k n m : Nat} (hn : n ≤ 2) (h : m = 2 - n) : back (k + 1) m = back k n := back_step hn h
/-- each race of the walk -/
theorem wlk_at : ∀ (n : Nat) (s0 : St4), RaceS s0 → mes s0 ≤ n → ∀ (k : Nat) (s : St4), (wlk n s0)[k]? = some s → RaceS s ∧ rkS s0 = back k (rkS s)
  | 0, s0, R, hm, _, _, _ => absurd (mes_pos R) (by omega)
  | n + 1, s0, R, hm, k, s, h => by
    rw [wlk_succ] at h
    match k, h with
    | 0, h =>
      cases h
      exact ⟨R, by unfold back; rfl⟩
    | k + 1, h =>
      rw [List.getElem?_cons_succ] at h
      by_cases e : ends s0 = true
      · rw [if_pos e] at h
        cases h
      · have e : ends s0 = false := by simpa using e
        rw [if_neg (by rw [e]; decide)] at h
        have := nxt_mes R e
        obtain ⟨h1, h2⟩ := wlk_at n (nxt s0) (nxt_race R e) (by omega) k s h
        refine ⟨h1, ?_⟩
        have h3 := nxt_rk R e
        have l1 : rkS s0 ≤ 2 := rk_le ..
        have l2 : rkS s ≤ 2 := rk_le ..
        unfold back at h2 ⊢
        rcases Nat.mod_two_eq_zero_or_one k with z | z
        · rw [if_pos z] at h2
          rw [if_neg (by omega)]
          omega
        · rw [if_neg (by omega)] at h2
          rw [if_pos (by omega)]
          omega
theorem Race.up {a b c : Int} (R : Race 30 a b c) : Race 1000000 a b c := ⟨R.a0, by have := R.a1; omega, R.b0, by have := R.b1; omega, R.c0, by have := R.c1; omega, R.ac, R.bc⟩
def spWalkOf : Sp := fun vs H Q _ => ∃ t a b c, vs = [.ref t, .int (2 * (a + b + c))] ∧ H t = some (.tup [.int a, .int b, .int c]) ∧ Race 30 a b c ∧ ∀ u H', Keeps H H' → WalkAt H' u a b c → Q (.ref u) H'
def spAgrees : Sp := fun vs H Q _ => ∃ u a b c, vs = [.ref u] ∧ Race 30 a b c ∧ WalkAt H u a b c ∧ ∀ H', Keeps H H' → Q (.bl true) H'
section
variable {P : Program} {w : World} {K : PySem.W.Frag} {mg : Str → Option Value} {base : Heap}
theorem lk_what {v wh : V} : ([(("value" : Str), v), (("what" : Str), wh)] : List (Str × V)).lookup ("what" : Str) = some wh := by
  have ne : (("what" : Str) == ("value" : Str)) = false := by decide +kernel
  simp [List.lookup, ne]
theorem lk_value {v wh : V} : ([(("value" : Str), v), (("what" : Str), wh)] : List (Str × V)).lookup ("value" : Str) = some v := by simp [List.lookup]
theorem ok_lineasked {C fI f f_rl : Addr} {fd fd_rl : FuncData} {c_TworoomsError c_NoEntry c_TooMany c_BadName : Addr} (B : Bi mg) (B_ValueError : mg "ValueError" = none) (D : Dn K mg "_law_line_asked" s_lineasked ["row"] f fd) (D_raceline : Dn K mg "race_line" s_raceline ["own", "other", "shared"] f_rl fd_rl)
    (X_BadNumber : Exn K mg "BadNumber" C fI) (XF_BadNumber : XfC K C) (XC_BadNumber : ExcC K C) (no_BadNumber_what : PySem.W.findIn K (.ref C) "what" = some none) (no_BadNumber_value : PySem.W.findIn K (.ref C) "value" = some none)
    (me : PySem.W.exmOne K (.ref C) (.ref C) = some true) (gc_TworoomsError : mg "TworoomsError" = some (.ref c_TworoomsError)) (gc_NoEntry : mg "NoEntry" = some (.ref c_NoEntry)) (gc_TooMany : mg "TooMany" = some (.ref c_TooMany)) (gc_BadName : mg "BadName" = some (.ref c_BadName))
    (kT : PySem.W.kitOne K (.ref C) (.ref c_TworoomsError) = some true) (kN : PySem.W.kitOne K (.ref C) (.ref c_NoEntry) = some false) (kM : PySem.W.kitOne K (.ref C) (.ref c_TooMany) = some false) (kB : PySem.W.kitOne K (.ref C) (.ref c_BadName) = some false) (kV : PySem.W.kitOne K (.ref C) (.type "ValueError") = some true)
    (G_raceline : FnOk P w K mg base (L2N.CX P w) 6 f_rl fd_rl ["own", "other", "shared"] (spLine C)) : FnOk P w K mg base CX0 7 f fd ["row"] spLineAsked := by
  refine D.F.ok sc_lineasked (fun vs H Q E h => ?_) (fun cdv A outer s H vs Q E hr h => ?_)
  · obtain ⟨t, x, y, z, rfl, _⟩ := h
    rfl
  · obtain ⟨t, x, y, z, rfl, ht, tx, ty, tz, h1, h2⟩ := h
    refine ⟨_, (pss_one (L2N.ps_try_as (i := 1) (Wout := fun _ _ _ _ => False) rfl rfl sc_lineasked.nd rfl rfl ⟨rfl, by decide, Or.inl X_BadNumber.g⟩ takesN0
        (fun W pn xe tk hpo => by exact (pss_one (ps_ret (pe_tup (pa_cons pe_str (pa_cons (pe_callS G_raceline (hr.mono (by omega)) rfl D_raceline.g D_raceline.F.kp D_raceline.b (fun σ => L2N.passAt tk σ) (pa_cons (pe_ix (ix_sxK (K := K)) (pv 0) pe_int (fun _ _ => rfl)) (pa_cons (pe_ix (ix_sxK (K := K)) (pv 0) pe_int (fun _ _ => rfl)) (pa_cons (pe_ix (ix_sxK (K := K)) (pv 0) pe_int (fun _ _ => rfl)) pa_nil)))) pa_nil))))))
        (fun a oe cls d pn hz hf => by exact (pss_cons (ps_set (i := 2) sc_lineasked.nd rfl (.inl rfl) (pe_and (pe_not (pe_callB (call_isZ (K := K) XC_BadNumber List.mem_cons_self hz hf) (by rfl) B.isinstance (by decide +kernel) (pa_cons (pv 1) (pa_cons (pe_glob (v := .ref c_NoEntry) (by rfl) gc_NoEntry rfl) pa_nil)))) (pe_and (pe_not (pe_callB (call_isZ (K := K) XC_BadNumber List.mem_cons_self hz hf) (by rfl) B.isinstance (by decide +kernel) (pa_cons (pv 1) (pa_cons (pe_glob (v := .ref c_TooMany) (by rfl) gc_TooMany rfl) pa_nil)))) (pe_one (pe_not (pe_callB (call_isZ (K := K) XC_BadNumber List.mem_cons_self hz hf) (by rfl) B.isinstance (by decide +kernel) (pa_cons (pv 1) (pa_cons (pe_glob (v := .ref c_BadName) (by rfl) gc_BadName rfl) pa_nil))))))))
      (pss_cons (ps_set (i := 3) sc_lineasked.nd rfl (.inl rfl) (pe_and (pe_callB (call_isZ (K := K) XC_BadNumber List.mem_cons_self hz hf) (by rfl) B.isinstance (by decide +kernel) (pa_cons (pv 1) (pa_cons (pe_glob (v := .ref c_TworoomsError) (by rfl) gc_TworoomsError rfl) pa_nil))) (pe_one (pe_callB (call_isZ (K := K) XC_BadNumber List.mem_cons_self hz hf) (by rfl) B.isinstance (by decide +kernel) (pa_cons (pv 1) (pa_cons (pe_bltn (v := .ty "ValueError") (by rfl) B_ValueError (by decide +kernel) rfl) pa_nil))))))
      (pss_one (ps_ret (pe_tup (pa_cons pe_str (pa_cons pe_str (pa_cons (pe_tup (pa_cons (pe_xf XF_BadNumber no_BadNumber_what hz.zc hf (pv 1)) (pa_cons (pe_xf XF_BadNumber no_BadNumber_value hz.zc hf (pv 1)) pa_nil))) (pa_cons (pe_and (pv 2) (pe_one (pv 3))) pa_nil)))))))))))), ?_⟩
    have sq : SqL K H t [x, y, z] ∨ SqT K H t [x, y, z] := .inr (.inl (.inl ht))
    walk_at "rt"
    refine ⟨_, sq, _, rfl, _, sq, _, rfl, _, sq, _, rfl, x, y, z, rfl, tx, ty, tz, fun a b c R ea eb ec u l H' k _ hl hu => ?_, fun wh v ef d nd => ⟨true, me, fun _ ad na => ?_, fun e => Bool.noConfusion e⟩⟩
    · exact ⟨by decide, fun v nv => h1 a b c R ea eb ec v u l _ (k.put (k.free nv)) (But0.new nv _ _ hl) (But0.new nv _ _ hu) upd_same⟩
    · have hd : ∀ dx, some d = some dx → ∃ fs, L2.upd H d (.xd [(("value" : Str), v), (("what" : Str), V.str wh)]) dx = some (.xd fs) := fun dx e => ⟨_, by cases e; exact upd_same⟩
      refine r_seq ?_
      walk_at "rt"
      refine r_isZ kN hd ?_
      walk_at "rt"
      refine r_isZ kM hd ?_
      walk_at "rt"
      refine r_isZ kB hd ?_
      walk_at "st"
      refine r_isZ kT hd ?_
      walk_at "rt"
      refine r_isZV kV hd ?_
      walk_at "rt"
      refine ⟨_, rfl, rfl, rfl, d, _, _, rfl, upd_same, lk_what, _, rfl, rfl, rfl, d, _, _, rfl, upd_same, lk_value, by decide, fun r nr => ⟨by decide, fun u nu => ?_⟩⟩
      exact h2 wh v ef u r _ (Keeps.put (Keeps.put (Keeps.new nd) (Keeps.free (Keeps.new nd) nr)) (Keeps.free (Keeps.put (Keeps.new nd) (Keeps.free (Keeps.new nd) nr)) nu)) (But0.new nu _ _ upd_same) upd_same
theorem ok_walkof {f f_lb f_la : Addr} {fd fd_lb fd_la : FuncData} (B : Bi mg) (D : Dn K mg "_law_walk_of" s_walkof ["row", "many"] f fd) (D_Lracebest : Dn K mg "_law_race_best" s_Lracebest ["own", "other", "shared", "passed"] f_lb fd_lb) (D_Lraceafter : Dn K mg "_law_race_after" s_Lraceafter ["own", "other", "shared", "deed"] f_la fd_la)
    (G_Lracebest : FnOk P w K mg base CX0 2 f_lb fd_lb ["own", "other", "shared", "passed"] spBest) (G_Lraceafter : FnOk P w K mg base CX0 1 f_la fd_la ["own", "other", "shared", "deed"] spAfter) : FnOk P w K mg base CX0 3 f fd ["row", "many"] spWalkOf := by
  refine D.F.ok sc_walkof (fun vs H Q E h => ?_) (fun cdv A outer s H vs Q E hr h => ?_)
  · obtain ⟨t, a, b, c, rfl, _⟩ := h
    rfl
  · obtain ⟨t, a, b, c, rfl, ht, R, q⟩ := h
    refine ⟨_, (pss_cons (ps_set (i := 2) sc_walkof.nd rfl (.inl rfl) (pe_lst pa_nil))
      (pss_cons (ps_set (i := 3) sc_walkof.nd rfl (.inl rfl) pe_bl)
      (pss_cons (ps_for PassesOwn.never rfl (pi_range1 (by rfl) B.range (pa_cons (pv 1) pa_nil)) (pg_name (i := 4) sc_walkof.nd rfl (.inl rfl)) (pss_cons (ps_set (i := 5) sc_walkof.nd rfl (.inl rfl) (pe_call G_Lracebest (hr.mono (by omega)) (by rfl) D_Lracebest.g D_Lracebest.F.kp D_Lracebest.b .nil pass0 (pa_cons (pe_ix (ix_sxK (K := K)) (pv 0) pe_int (fun _ _ => rfl)) (pa_cons (pe_ix (ix_sxK (K := K)) (pv 0) pe_int (fun _ _ => rfl)) (pa_cons (pe_ix (ix_sxK (K := K)) (pv 0) pe_int (fun _ _ => rfl)) (pa_cons (pv 3) pa_nil))))))
      (pss_cons (ps_expr (pe_bm PySem.F.plainAttrs_list PySem.F.slot_list_append PySem.F.type_list_append mt_append (pv 2) (pa_cons (pe_tup (pa_cons (pv 0) (pa_cons (pv 3) (pa_cons (pv 5) pa_nil)))) pa_nil)))
      (pss_cons (ps_if (PW.pt (pw_and (pt_cmpR op_eq (pv 5) pe_str (nomark _)) (pw_and1 (pt_val (pv 3))))) (pss_one (ps_ret (pe_tup (pa_cons (pv 2) (pa_cons pe_str pa_nil))))) pss_nil)
      (pss_cons (ps_set (i := 0) sc_walkof.nd rfl (.inl rfl) (pe_call G_Lraceafter (hr.mono (by omega)) (by rfl) D_Lraceafter.g D_Lraceafter.F.kp D_Lraceafter.b .nil pass0 (pa_cons (pe_ix (ix_sxK (K := K)) (pv 0) pe_int (fun _ _ => rfl)) (pa_cons (pe_ix (ix_sxK (K := K)) (pv 0) pe_int (fun _ _ => rfl)) (pa_cons (pe_ix (ix_sxK (K := K)) (pv 0) pe_int (fun _ _ => rfl)) (pa_cons (pv 5) pa_nil))))))
      (pss_cons (ps_if (pt_cmpR op_isN (pv 0) pe_non (nomark _)) (pss_one (ps_ret (pe_tup (pa_cons (pv 2) (pa_cons (pe_ix (ix_listK (K := K)) (pe_lst (pa_cons pe_str (pa_cons pe_str pa_nil))) (pe_op op_modN (pv 4) pe_int) (fun _ _ => rfl)) pa_nil))))) pss_nil)
      (pss_one (ps_set (i := 3) sc_walkof.nd rfl (.inl rfl) (pe_cmpR op_eq (pv 5) pe_str (nomark _))))))))))
      (pss_one (ps_ret (pe_tup (pa_cons (pv 2) (pa_cons pe_non pa_nil)))))))), ?_⟩
    have wl := Wk_len R
    have e0 : Wk a b c = wlk (mes (a, b, c, false)) (a, b, c, false) := by rw [mes_start]; rfl
    have q : ∀ u l vs H', Keeps H H' → H' u = some (.tup [.ref l, .str (nm (rk a b c false))]) → H' l = some (.lst vs) → StepsAt H' (Wk a b c) vs → Q (.ref u) H' := fun u l vs H' k h1 h2 h3 => q u H' k ⟨l, vs, h1, h2, h3⟩
    rw [e0] at q wl
    have em : (2 * (a + b + c)).toNat = mes (a, b, c, false) := (mes_start a b c).symm
    have hm : -(2 ^ 62) ≤ 2 * (a + b + c) ∧ 2 * (a + b + c) < 2 ^ 62 := by
      have := R.a0; have := R.b0; have := R.c0; have := R.a1; have := R.b1; have := R.c1
      omega
    have r0 : rk a b c false = rkS (a, b, c, false) := rfl
    rw [r0] at q
    have R0 : RaceS (a, b, c, false) := R
    generalize hs0 : (a, b, c, false) = s0 at q wl R0 em
    walk_at "st"
    refine ⟨by decide, fun l nl => ?_⟩
    walk_at "st"
    walk_at "st"
    refine ⟨hm.1, hm.2, ?_⟩
    rw [em]
    refine r_range (fun i σ H' => ∃ (t : Addr) (s : St4) (n : Nat) (done : List St4) (vs : List V) (x4 x5 : Option V), σ = [some (.ref t), some (.int (2 * (a + b + c))), some (.ref l), some (.bl s.2.2.2), x4, x5] ∧ Keeps H H' ∧ H' t = some (.tup [.int s.1, .int s.2.1, .int s.2.2.1]) ∧ Within2 s0 done s n ∧ n + i = mes s0 ∧ done.length = i ∧ H' l = some (.lst vs) ∧ StepsAt H' done vs)
      ⟨t, s0, _, [], [], _, _, by rw [← hs0], Keeps.new nl, by rw [← hs0]; exact But0.new nl _ _ ht, .start R0, rfl, rfl, upd_same, rfl, fun i s v e => by cases e⟩ ?_ ?_
    · rintro i σ H1 hi ⟨t, s, n, done, vs, x4, x5, rfl, k1, ht, wi, hn, hlen, hl, hst⟩ N kN
      have dl : done.length ≤ 200 := by
        have := congrArg List.length wi.split
        rw [List.length_append] at this
        omega
      have sq : SqL K H1 t [.int s.1, .int s.2.1, .int s.2.2.1] ∨ SqT K H1 t [.int s.1, .int s.2.1, .int s.2.2.1] := .inr (.inl (.inl ht))
      walk_at "st"
      refine ⟨_, sq, _, rfl, _, sq, _, rfl, _, sq, _, rfl, _, _, _, _, rfl, ?_⟩
      walk_at "st"
      refine ⟨.inl ⟨rfl, _, sq_of hl⟩, by decide, fun r nr => ⟨vs, But0.new nr _ _ hl, size_ok (by rw [hst.1]; omega), ?_⟩⟩
      have nlr : l ≠ r := kp_ne hl nr
      have k2 : Keeps H (L2.upd (L2.upd H1 r (.tup [.ref t, .bl s.2.2.2, .str (bestD s.1 s.2.1 s.2.2.1 s.2.2.2).str])) l (.lst (vs ++ [.ref r]))) := Keeps.put (k1.put (k1.free nr)) nl
      have bu : But l (L2.upd H1 r (.tup [.ref t, .bl s.2.2.2, .str (bestD s.1 s.2.1 s.2.2.1 s.2.2.2).str])) (L2.upd (L2.upd H1 r (.tup [.ref t, .bl s.2.2.2, .str (bestD s.1 s.2.1 s.2.2.1 s.2.2.2).str])) l (.lst (vs ++ [.ref r]))) := But.updA
      have hl' : L2.upd H1 r (.tup [.ref t, .bl s.2.2.2, .str (bestD s.1 s.2.1 s.2.2.1 s.2.2.2).str]) l = some (.lst vs) := But0.new nr _ _ hl
      have tl' : t ≠ l := fun z => by rw [z, hl] at ht; cases ht
      have ht2 := bu _ _ tl' (But0.new nr _ _ ht)
      have st2 : StepsAt _ (done ++ [s]) (vs ++ [.ref r]) := ((hst.keep (Keeps.new nr)).but bu hl').snoc (StepAt.but (s := s) ⟨r, t, rfl, upd_same, But0.new nr _ _ ht⟩ bu hl')
      have hl2 : L2.upd (L2.upd H1 r (.tup [.ref t, .bl s.2.2.2, .str (bestD s.1 s.2.1 s.2.2.1 s.2.2.2).str])) l (.lst (vs ++ [.ref r])) l = some (.lst (vs ++ [.ref r])) := upd_same
      generalize L2.upd (L2.upd H1 r (.tup [.ref t, .bl s.2.2.2, .str (bestD s.1 s.2.1 s.2.2.1 s.2.2.2).str])) l (.lst (vs ++ [.ref r])) = H2 at k2 ht2 st2 hl2 ⊢
      clear bu hl' hst
      have sq2 : SqL K H2 t [.int s.1, .int s.2.1, .int s.2.2.1] ∨ SqT K H2 t [.int s.1, .int s.2.1, .int s.2.2.1] := .inr (.inl (.inl ht2))
      have ch : ∀ z : Str, nm (rkS s0) = z → 2 ≤ sizeLine ∧ ∀ u, H2 u = none → ends s = true → Q (.ref u) (L2.upd H2 u (.tup [.ref l, .str z])) := fun z ez => ⟨by decide, fun u nu hen => q u l _ _ (k2.put (k2.free nu)) (by rw [upd_same, ez]) (But0.new nu _ _ hl2) (by rw [wi.last hen]; exact st2.keep (Keeps.new nu))⟩
      walk_at "st"
      refine ite2 (fun e1 => ite2 (fun e2 => ?_) (fun e2 => ?_)) (fun e1 => ?_)
      · have h1' : isPass (dd s) = true := decide_eq_true e1
        have hen : ends s = true := by
          unfold ends
          rw [h1', e2]
          rfl
        have r1 := end_peace wi.race h1' e2
        have hr0 : nm (rkS s0) = Str.ofString "peace" := by
          rw [wi.rank, r1]
          unfold back
          split <;> rfl
        exact ⟨by decide, fun u nu => (ch _ hr0).2 u nu hen⟩
      all_goals
        have np : ¬ (isPass (dd s) = true ∧ s.2.2.2 = true) := by first | exact fun z => e2 z.2 | exact fun z => e1 (of_decide_eq_true z.1)
        walk_at "st"
        refine ⟨_, sq2, _, rfl, _, sq2, _, rfl, _, sq2, _, rfl, dd s, _, _, _, rfl, fun tk => ?_, fun nt u nu => ?_⟩
        · have hen : ends s = true := by
            unfold ends
            rw [decide_eq_true tk, Bool.or_true]
          have rr0 : rkS s0 = back i 0 := by rw [wi.rank, end_take wi.race tk, hlen]
          walk_at "st"
          refine ⟨by decide, fun p np => ⟨_, sq_of upd_same, ?_⟩⟩
          have im : Int.fmod (i : Int) 2 = ((i % 2 : Nat) : Int) := by
            rw [Int.fmod_eq_emod_of_nonneg _ (by decide)]
            omega
          rw [Int.zero_add, im]
          have hl3 := But0.new (x := .lst [.str (Str.ofString "wins"), .str (Str.ofString "loses")]) np _ _ hl2
          have k3 := k2.put (x := .lst [.str (Str.ofString "wins"), .str (Str.ofString "loses")]) (k2.free np)
          have st3 := st2.keep (Keeps.new (x := .lst [.str (Str.ofString "wins"), .str (Str.ofString "loses")]) np)
          rcases Nat.mod_two_eq_zero_or_one i with e | e
          · rw [e]
            refine ⟨_, rfl, by decide, fun u nu => q u l _ _ (k3.put (k3.free nu)) ?_ (But0.new nu _ _ hl3) (by rw [wi.last hen]; exact st3.keep (Keeps.new nu))⟩
            rw [upd_same, rr0]
            unfold back
            rw [if_pos e]
            rfl
          · rw [e]
            refine ⟨_, rfl, by decide, fun u nu => q u l _ _ (k3.put (k3.free nu)) ?_ (But0.new nu _ _ hl3) (by rw [wi.last hen]; exact st3.keep (Keeps.new nu))⟩
            rw [upd_same, rr0]
            unfold back
            rw [if_neg (by omega)]
            rfl
        · have hen : ends s = false := by
            unfold ends
            rw [decide_eq_false nt, Bool.or_false]
            cases h : isPass (dd s) && s.2.2.2 with
            | false => rfl
            | true => exact absurd (by simpa using h) np
          obtain ⟨n', rfl, wi'⟩ := wi.next hen
          walk_at "st"
          walk_at "rt"
          exact kN _ _ ⟨u, nxt s, n', done ++ [s], _, _, _, rfl, k2.put (k2.free nu), upd_same, wi', by omega, by rw [List.length_append, hlen]; rfl, But0.new nu _ _ hl2, st2.keep (Keeps.new nu)⟩
    · rintro σ H1 ⟨t, s, n, done, vs, x4, x5, rfl, k1, ht, wi, hn, hlen, hl, hst⟩
      have := mes_pos wi.race
      have := wi.left
      omega
theorem ok_walkagrees {C f f_rb f_rv f_same : Addr} {fd fd_rb fd_rv fd_same : FuncData} (B : Bi mg) (D : Dn K mg "_law_walk_agrees" s_walkagrees ["walk"] f fd) (D_racebest : Dk K mg "race_best" s_racebest f_rb fd_rb) (D_racevalue : Dk K mg "race_value" s_racevalue f_rv fd_rv) (D_same : Dn K mg "_law_same" s_same ["one", "two"] f_same fd_same)
    (KB_racebest : KBinds K fd_rb ["own", "other", "shared", "after_pass"] ["after_pass"] kw31 kw31) (KB_racevalue : KBinds K fd_rv ["own", "other", "shared", "after_pass"] ["after_pass"] kw31 kw31)
    (G_racebest : FnOk P w K mg base (L2N.CX P w) 6 f_rb fd_rb ["own", "other", "shared", "after_pass"] (spRaceBest C)) (G_racevalue : FnOk P w K mg base (L2N.CX P w) 6 f_rv fd_rv ["own", "other", "shared", "after_pass"] (spRaceValue C)) (G_same : FnOk P w K mg base CX0 8 f_same fd_same ["one", "two"] (spSame 3)) : FnOk P w K mg base CX0 9 f fd ["walk"] spAgrees := by
  refine D.F.ok sc_walkagrees (fun vs H Q E h => ?_) (fun cdv A outer s H vs Q E hr h => ?_)
  · obtain ⟨u, a, b, c, rfl, _⟩ := h
    rfl
  · obtain ⟨u, a, b, c, rfl, R, ⟨l, vs, hu, hl, hst⟩, q⟩ := h
    refine ⟨_, (pss_cons (ps_set (i := 1) sc_walkagrees.nd rfl (.inl rfl) (pe_gS (hu_of hr) (pe_disp (pps_cons pe_str pe_str (pps_cons pe_str pe_str (pps_cons pe_str pe_str pps_nil))) (by rfl) (by rfl) (fun z => by cases z) (by decide)) (pe_ix (ix_sxK (K := K)) (pv 0) pe_int (fun _ _ => rfl)) (fun _ _ => rfl)))
      (pss_cons (ps_for PassesOwn.never rfl (pi_range1 (by rfl) B.range (pa_cons (pe_callB (call_lenXK (K := K)) (by rfl) B.len PySem.boot_len (pa_cons (pe_ix (ix_sxK (K := K)) (pv 0) pe_int (fun _ _ => rfl)) pa_nil)) pa_nil)) (pg_name (i := 2) sc_walkagrees.nd rfl (.inl rfl)) (pss_cons (ps_set (i := 3) sc_walkagrees.nd rfl (.inl rfl) (pe_ix (ix_sxK (K := K)) (pe_ix (ix_listK (K := K)) (pe_ix (ix_sxK (K := K)) (pv 0) pe_int (fun _ _ => rfl)) (pv 2) (fun _ _ => rfl)) pe_int (fun _ _ => rfl)))
      (pss_cons (ps_set (i := 4) sc_walkagrees.nd rfl (.inl rfl) (pe_ix (ix_sxK (K := K)) (pe_ix (ix_listK (K := K)) (pe_ix (ix_sxK (K := K)) (pv 0) pe_int (fun _ _ => rfl)) (pv 2) (fun _ _ => rfl)) pe_int (fun _ _ => rfl)))
      (pss_cons (ps_if (pt_not (pt_val (pe_call G_same (hr.mono (by omega)) (by rfl) D_same.g D_same.F.kp D_same.b .nil pass0 (pa_cons (pe_callKS G_racebest (hr.mono (by omega)) rfl D_racebest.g D_racebest.F.kp KB_racebest passS0 (pa_cons (pe_ix (ix_sxK (K := K)) (pv 3) pe_int (fun _ _ => rfl)) (pa_cons (pe_ix (ix_sxK (K := K)) (pv 3) pe_int (fun _ _ => rfl)) (pa_cons (pe_ix (ix_sxK (K := K)) (pv 3) pe_int (fun _ _ => rfl)) pa_nil))) (pk_cons (pv 4) pk_nil)) (pa_cons (pe_ix (ix_sxK (K := K)) (pe_ix (ix_listK (K := K)) (pe_ix (ix_sxK (K := K)) (pv 0) pe_int (fun _ _ => rfl)) (pv 2) (fun _ _ => rfl)) pe_int (fun _ _ => rfl)) pa_nil))))) (pss_one (ps_ret pe_bl)) pss_nil)
      (pss_one (ps_if (pt_not (pt_val (pe_call G_same (hr.mono (by omega)) (by rfl) D_same.g D_same.F.kp D_same.b .nil pass0 (pa_cons (pe_callKS G_racevalue (hr.mono (by omega)) rfl D_racevalue.g D_racevalue.F.kp KB_racevalue passS0 (pa_cons (pe_ix (ix_sxK (K := K)) (pv 3) pe_int (fun _ _ => rfl)) (pa_cons (pe_ix (ix_sxK (K := K)) (pv 3) pe_int (fun _ _ => rfl)) (pa_cons (pe_ix (ix_sxK (K := K)) (pv 3) pe_int (fun _ _ => rfl)) pa_nil))) (pk_cons (pv 4) pk_nil)) (pa_cons (pe_ix (ix_listK (K := K)) (pe_lst (pa_cons (pe_ix (ix_sxK (K := K)) (pv 0) pe_int (fun _ _ => rfl)) (pa_cons (pv 1) pa_nil))) (pe_op op_modN (pv 2) pe_int) (fun _ _ => rfl)) pa_nil))))) (pss_one (ps_ret pe_bl)) pss_nil))))))
      (pss_one (ps_ret pe_bl)))), ?_⟩
    have wl := Wk_len R
    have lv : vs.length ≤ 200 := by rw [hst.1]; exact wl
    have R0 : RaceS (a, b, c, false) := R
    have wat : ∀ k s, (Wk a b c)[k]? = some s → RaceS s ∧ rk a b c false = back k (rkS s) := fun k s h => wlk_at _ _ R0 (by rw [mes_start]; exact Nat.le_refl _) k s h
    have su : ∀ {H'}, Keeps H H' → (SqL K H' u [.ref l, .str (nm (rk a b c false))] ∨ SqT K H' u [.ref l, .str (nm (rk a b c false))]) := fun k => .inr (.inl (.inl (k _ _ hu)))
    have rl := rk_le a b c false
    walk_at "st"
    intro pd npd
    have k1 : Keeps H (L2.upd (L2.upd H pd (.dK [])) pd (.dK turnD)) := (Keeps.new npd).put npd
    refine ⟨upd_same, turnD, rfl, by decide, _, su k1, _, rfl, _, rfl, turnD, upd_same, .str (nm (2 - rk a b c false)), turn_at _ rl, ?_⟩
    rw [show mergeK [] turnD = turnD from rfl]
    generalize L2.upd (L2.upd H pd (.dK [])) pd (.dK turnD) = H1 at k1 ⊢
    walk_at "st"
    refine ⟨_, su k1, _, rfl, l, rfl, vs, .inl (sq_of (k1 _ _ hl)), by omega, by omega, ?_⟩
    rw [show ((vs.length : Nat) : Int).toNat = vs.length from rfl]
    refine r_range (fun i σ H' => (∃ x2 x3 x4 : Option V, σ = [some (.ref u), some (.str (nm (2 - rk a b c false))), x2, x3, x4]) ∧ Keeps H1 H') ⟨⟨_, _, _, rfl⟩, Keeps.refl _⟩ ?_ ?_
    · rintro i σ H2 hi ⟨⟨x2, x3, x4, rfl⟩, k2⟩ N kN
      obtain ⟨s, hs⟩ : ∃ s, (Wk a b c)[i]? = some s := ⟨_, List.getElem?_eq_getElem (by rw [← hst.1]; exact hi)⟩
      obtain ⟨v, hv⟩ : ∃ v, vs[i]? = some v := ⟨_, List.getElem?_eq_getElem hi⟩
      obtain ⟨Rs, hrk⟩ := wat i s hs
      have k12 := Keeps.trans k1 k2
      obtain ⟨r, row, rfl, hr, hrow⟩ := (hst.2 i s v hs hv).keep k12
      have sl : ∀ {H'}, Keeps H2 H' → SqL K H' l vs := fun k => sq_of (k _ _ (k12 _ _ hl))
      have su2 : ∀ {H'}, Keeps H2 H' → (SqL K H' u [.ref l, .str (nm (rk a b c false))] ∨ SqT K H' u [.ref l, .str (nm (rk a b c false))]) := fun k => su (Keeps.trans k12 k)
      have sr : ∀ {H'}, Keeps H2 H' → (SqL K H' r [.ref row, .bl s.2.2.2, sv s] ∨ SqT K H' r [.ref row, .bl s.2.2.2, sv s]) := fun k => .inr (.inl (.inl (k _ _ hr)))
      have sw : ∀ {H'}, Keeps H2 H' → (SqL K H' row [.int s.1, .int s.2.1, .int s.2.2.1] ∨ SqT K H' row [.int s.1, .int s.2.1, .int s.2.2.1]) := fun k => .inr (.inl (.inl (k _ _ hrow)))
      have at_ : atI vs (0 + (i : Int)) = some (.ref r) := by rw [Int.zero_add]; exact atI_nat hv
      have kk := Keeps.refl H2
      have Ru : Race 1000000 s.1 s.2.1 s.2.2.1 := Rs.up
      have no : ∀ {wh : Str} {v : V}, fault (.int s.1) (.int s.2.1) (.int s.2.2.1) 1000000 = some (wh, v) → False := fun ef => by
        rw [race_fault Ru] at ef
        cases ef
      walk_at "st"
      refine ⟨_, su2 kk, _, rfl, l, rfl, _, sl kk, _, at_, r, rfl, _, sr kk, _, rfl, ?_⟩
      walk_at "st"
      refine ⟨_, su2 kk, _, rfl, l, rfl, _, sl kk, _, at_, r, rfl, _, sr kk, _, rfl, ?_⟩
      walk_at "st"
      refine ⟨_, sw kk, _, rfl, _, sw kk, _, rfl, _, sw kk, _, rfl, s.2.2.2, _, _, _, rfl, th_int _, th_int _, th_int _, fun a' b' c' R' ea eb ec => ?_, fun wh v ef => (no ef).elim⟩
      cases ea; cases eb; cases ec
      refine ⟨_, su2 kk, _, rfl, l, rfl, _, sl kk, _, at_, r, rfl, _, sr kk, _, rfl, ?_⟩
      refine same_ok (d := .str (dd s).str) rfl rfl (Nat.zero_le _) ?_
      refine ⟨true, rfl, ite2 (fun e => by cases e) (fun _ => ?_)⟩
      walk_at "rt"
      refine ⟨_, sw kk, _, rfl, _, sw kk, _, rfl, _, sw kk, _, rfl, s.2.2.2, _, _, _, rfl, th_int _, th_int _, th_int _, fun a' b' c' R' ea eb ec => ?_, fun wh v ef => (no ef).elim⟩
      cases ea; cases eb; cases ec
      refine ⟨_, su2 kk, _, rfl, by decide, fun p np => ?_⟩
      have im : Int.fmod (0 + (i : Int)) 2 = ((i % 2 : Nat) : Int) := by
        rw [Int.zero_add, Int.fmod_eq_emod_of_nonneg _ (by decide)]
        omega
      rw [im]
      have l2 : rkS s ≤ 2 := rk_le ..
      have ev : ∀ n, n = rkS s → V.str (valR s.1 s.2.1 s.2.2.1 s.2.2.2) = .str (nm n) := fun n e => by
        rw [valR_nm, e]
        rfl
      rcases Nat.mod_two_eq_zero_or_one i with e | e
      · rw [e]
        refine ⟨_, sq_of upd_same, _, rfl, ?_⟩
        rw [ev (rk a b c false) (by rw [hrk]; unfold back; rw [if_pos e])]
        refine same_ok (d := .str (nm (rk a b c false))) rfl rfl (Nat.zero_le _) ?_
        exact ⟨true, rfl, ite2 (fun e => by cases e) (fun _ => kN _ _ ⟨⟨_, _, _, rfl⟩, k2.put (k2.free np)⟩)⟩
      · rw [e]
        refine ⟨_, sq_of upd_same, _, rfl, ?_⟩
        rw [ev (2 - rk a b c false) (by rw [hrk]; unfold back; rw [if_neg (by omega)]; omega)]
        refine same_ok (d := .str (nm (2 - rk a b c false))) rfl rfl (Nat.zero_le _) ?_
        exact ⟨true, rfl, ite2 (fun e => by cases e) (fun _ => kN _ _ ⟨⟨_, _, _, rfl⟩, k2.put (k2.free np)⟩)⟩
    · rintro σ H2 ⟨⟨x2, x3, x4, rfl⟩, k2⟩
      walk_at "rt"
      exact q _ (Keeps.trans k1 k2)
end
end K01
namespace K01
open PySem PySem.Spec PyProof.Rows L2 TL HotExc
local macro_rules | `(tactic| walk_at "rd") => `(tactic| simp only [start1, wipe, isR, isBool, isInt, isStr, isLst, isTup, tAsg, gName, gSub, tVar, tC, tOp, tUn, tTest, tIfS, tRet, tRetN, tDrop, tB, tAnd, tOr, tNot, tAndV, tOrV, tNotV, tIf, tCB, tCons, tNil, tNext, tCall, tBM, tTup, tLst, rU, rInW, rNinW, Int.reduceNeg, tG, tG2, sP, tDisp, tPairs, tCallS, tCallSD, tCallT, StX.tStar, tCallK, tCallKS, rTupOf, tDrop, rI0, rI, rEq, rNe, scal, forR_eq, forR2_eq, forS_eq, forL_eq, lcT_eq, lcRT_eq, lcS_eq, rLenX, rLenS, rListOf, tRevL, rMulS, rRepL, rCatL, tPart, tNoPart, CwR.tReplC, rAllK, rInSg, rNinSg, sgn_inj, rAddS, rInSt, tChain, tM1, tM0, rSplitN, rJoinN, exists_eq, rIntI, rIntB, rIntS, rStrI, rAbs, rOrd, rMin, rMax, rIxL, rIxX, rSetL, rAppend, rIxS, rSlS, rSlL, tSl, List.map_cons, List.map_nil, List.replicate_succ, List.replicate_zero, List.length_cons, List.length_nil, Nat.reduceSub, Nat.reduceAdd, Nat.zero_add, Nat.sub_self, List.getElem?_cons_zero, List.getElem?_cons_succ, List.set_cons_zero, List.set_cons_succ, List.append_nil, List.nil_append, List.cons_append, Option.some.injEq, not_true_eq_false, reduceCtorEq, exists_eq_left', exists_eq_left, exists_eq', exists_and_left, exists_and_right, V.int.injEq, V.str.injEq, V.bl.injEq, V.ref.injEq, List.cons.injEq, and_true, true_and, and_assoc, decide_eq_true_eq, Bool.not_eq_true', decide_eq_false_iff_not, ite_true, ite_false, if_true, if_false, Bool.not_true, Bool.not_false, Bool.false_eq_true, eq_self_iff_true, reduceIte, ne_eq, Int.reduceEq, not_false_eq_true])
local macro_rules | `(tactic| walk_at "rt") => `(tactic| try walk_at "rd")
local macro_rules | `(tactic| walk_at "st") => `(tactic| (walk_at "rt"; refine r_seq ?_; walk_at "rt"))
local macro_rules | `(tactic| walk_at "hp") => `(tactic| first | assumption | exact upd_same | (rw [upd_ne (by assumption)]; walk_at "hp"))
local macro_rules | `(tactic| walk_at "ex1") => `(tactic| ((with_reducible refine Exists.intro ?w (And.intro ?hx ?_)); (case hx => first | exact sq_of (by walk_at "hp") | exact .inl (sq_of (by walk_at "hp")) | exact rfl | (show _ = some (HO.lst _); walk_at "hp"))))
local macro_rules | `(tactic| walk_at "ex") => `(tactic| repeat (first | walk_at "ex1" | walk_at "rd"))
abbrev s_law : Stmt := topS 48
theorem sc_law : FnScope ["script", "store", "races", "k", "odd", "dues", "row", "walk", "told", "due", "step"] ["script"] (defScope s_law) := ⟨rfl, rfl, rfl, by decide +kernel, rfl, by decide +kernel, by decide +kernel⟩
/-- things in a list, one by one -/
def LAt {α : Type} (R : Hp → α → V → Prop) (H : Hp) (xs : List α) (vs : List V) : Prop := vs.length = xs.length ∧ ∀ (i : Nat) (x : α) (v : V), xs[i]? = some x → vs[i]? = some v → R H x v
theorem LAt.mono {α : Type} {R R' : Hp → α → V → Prop} {H H' : Hp} {xs : List α} {vs : List V} (h : LAt R H xs vs) (k : ∀ x v, R H x v → R' H' x v) : LAt R' H' xs vs := ⟨h.1, fun i x v e1 e2 => k x v (h.2 i x v e1 e2)⟩
theorem LAt.snoc {α : Type} {R : Hp → α → V → Prop} {H : Hp} {xs : List α} {vs : List V} {x : α} {v : V} (h : LAt R H xs vs) (h2 : R H x v) : LAt R H (xs ++ [x]) (vs ++ [v]) := by
  refine ⟨by rw [List.length_append, List.length_append, h.1]; rfl, fun i x' v' e1 e2 => ?_⟩
  by_cases hi : i < xs.length
  · rw [List.getElem?_append_left hi] at e1
    rw [List.getElem?_append_left (by rw [h.1]; exact hi)] at e2
    exact h.2 i x' v' e1 e2
  · rw [List.getElem?_append_right (by omega)] at e1
    rw [List.getElem?_append_right (by rw [h.1]; omega)] at e2
    rw [h.1] at e2
    have i0 : i - xs.length = 0 := by
      have := lt_of_get e1
      rw [List.length_singleton] at this
      omega
    rw [i0] at e1 e2
    cases e1
    cases e2
    exact h2
theorem LAt.get {α : Type} {R : Hp → α → V → Prop} {H : Hp} {xs : List α} {vs : List V} (h : LAt R H xs vs) {i : Nat} (hi : i < xs.length) : ∃ x v, xs[i]? = some x ∧ vs[i]? = some v ∧ R H x v :=
  ⟨_, _, List.getElem?_eq_getElem hi, List.getElem?_eq_getElem (by rw [h.1]; exact hi), h.2 i _ _ (List.getElem?_eq_getElem hi) (List.getElem?_eq_getElem (by rw [h.1]; exact hi))⟩
abbrev Tr := Int × Int × Int
def RaceAt (H : Hp) (x : Tr) (v : V) : Prop := ∃ t, v = .ref t ∧ H t = some (.tup [.int x.1, .int x.2.1, .int x.2.2]) ∧ Race 30 x.1 x.2.1 x.2.2
theorem RaceAt.keep {H H' : Hp} (k : Keeps H H') (x : Tr) (v : V) (h : RaceAt H x v) : RaceAt H' x v := by
  obtain ⟨t, e, h1, R⟩ := h
  exact ⟨t, e, k _ _ h1, R⟩
theorem RaceAt.but {H H' : Hp} {a : Addr} {xs : List V} (k : But a H H') (ha : H a = some (.lst xs)) (x : Tr) (v : V) (h : RaceAt H x v) : RaceAt H' x v := by
  obtain ⟨t, e, h1, R⟩ := h
  exact ⟨t, e, k _ _ (fun z => by rw [z, ha] at h1; cases h1) h1, R⟩
def DueAt (pd : Addr) (H : Hp) (x : Tr) (v : V) : Prop := ∃ r ld, v = .ref r ∧ ld ≠ pd ∧ H r = some (.tup [.ref ld, .str (nm (rk x.1 x.2.1 x.2.2 false))]) ∧ H ld = some (.lst ((Wk x.1 x.2.1 x.2.2).map sv))
theorem DueAt.keep {pd : Addr} {H H' : Hp} (k : Keeps H H') (x : Tr) (v : V) (h : DueAt pd H x v) : DueAt pd H' x v := by
  obtain ⟨r, ld, e, n, h1, h2⟩ := h
  exact ⟨r, ld, e, n, k _ _ h1, k _ _ h2⟩
theorem DueAt.but {pd : Addr} {H H' : Hp} {xs : List V} (k : But pd H H') (ha : H pd = some (.lst xs)) (x : Tr) (v : V) (h : DueAt pd H x v) : DueAt pd H' x v := by
  obtain ⟨r, ld, e, n, h1, h2⟩ := h
  exact ⟨r, ld, e, n, k _ _ (fun z => by rw [z, ha] at h1; cases h1) h1, k _ _ n h2⟩
theorem store_lst {H : Hp} {a c : Addr} (S : StoreAt H a c) : ∃ xs, H a = some (.lst xs) := by
  obtain ⟨_, _, _, _, _, h, _⟩ := S.ex
  exact ⟨_, h⟩
theorem sv_strs (ss : List St4) : ss.map sv = (ss.map fun s => (dd s).str).map V.str := by rw [List.map_map]; rfl
theorem at_strs {H : Hp} {l : Addr} : ∀ {ws : List Str}, AtL H (fun _ => True) (ws.map Dat.str) (ws.map V.str)
  | [] => rfl
  | _ :: ws => atl_cons rfl (at_strs (ws := ws) (l := l))
theorem dep_strs : ∀ ws : List Str, depL (ws.map Dat.str) = 0
  | [] => rfl
  | _ :: ws => by rw [List.map_cons, depL, dep_strs ws]; rfl
theorem at_lstS {H : Hp} {l : Addr} {ws : List Str} (h : H l = some (.lst (ws.map V.str))) (hl : ws.length ≤ 1000) : At H (fun _ => True) (.lst (ws.map Dat.str)) (.ref l) := at_lst h (by rw [List.length_map]; omega) (at_strs (l := l))
theorem ix0 {n : Nat} (h : 0 < n) : ixN n 0 = some 0 := by
  unfold ixN
  rw [if_pos (by omega), if_pos (by omega)]
  rfl
def lineDat (x : Tr) : Dat := .tup [.lst (((Wk x.1 x.2.1 x.2.2).map fun s => (dd s).str).map Dat.str), .str (nm (rk x.1 x.2.1 x.2.2 false))]
theorem line_at {H : Hp} {x : Tr} {u l : Addr} (R : Race 30 x.1 x.2.1 x.2.2) (hl : H l = some (.lst ((Wk x.1 x.2.1 x.2.2).map sv))) (hu : H u = some (.tup [.ref l, .str (nm (rk x.1 x.2.1 x.2.2 false))])) : At H (fun _ => True) (lineDat x) (.ref u) := by
  have wl := Wk_len R
  rw [sv_strs] at hl
  exact at_tup hu (Nat.le_of_ble_eq_true rfl) (atl_cons (at_lstS hl (by rw [List.length_map]; omega)) (atl_cons rfl rfl))
theorem line_dep (x : Tr) : (lineDat x).dep ≤ 2 := by
  unfold lineDat
  simp only [Dat.dep, depL, dep_strs]
  decide
section
variable {P : Program} {w : World} {K : PySem.W.Frag} {mg : Str → Option Value} {base : Heap}
theorem ok_law {C f f_store f_race f_pick f_br f_wo f_wa f_rl f_la f_rd f_same : Addr} {fd fd_store fd_race fd_pick fd_br fd_wo fd_wa fd_rl fd_la fd_rd fd_same : FuncData} (B : Bi mg) (D : Dn K mg "law" s_law ["script"] f fd) (D_store : Dn K mg "_law_store" s_store ["script"] f_store fd_store) (D_race : Dn K mg "_law_race" s_race ["store", "high"] f_race fd_race)
    (D_pick : Dn K mg "_law_pick" s_pick ["store", "row"] f_pick fd_pick) (D_badrace : Dn K mg "_law_bad_race" s_badrace ["store", "high"] f_br fd_br) (D_walkof : Dn K mg "_law_walk_of" s_walkof ["row", "many"] f_wo fd_wo) (D_walkagrees : Dn K mg "_law_walk_agrees" s_walkagrees ["walk"] f_wa fd_wa)
    (D_raceline : Dn K mg "race_line" s_raceline ["own", "other", "shared"] f_rl fd_rl) (D_lineasked : Dn K mg "_law_line_asked" s_lineasked ["row"] f_la fd_la) (D_racedue : Dn K mg "_law_race_due" s_racedue ["own", "other", "shared", "high"] f_rd fd_rd) (D_same : Dn K mg "_law_same" s_same ["one", "two"] f_same fd_same)
    (G_store : FnOk P w K mg base CX0 1 f_store fd_store ["script"] (spStore K)) (G_race : FnOk P w K mg base CX0 5 f_race fd_race ["store", "high"] spRace) (G_pickL : FnOk P w K mg base CX0 3 f_pick fd_pick ["store", "row"] spPickL) (G_badrace : FnOk P w K mg base CX0 6 f_br fd_br ["store", "high"] spBadRace)
    (G_walkof : FnOk P w K mg base CX0 3 f_wo fd_wo ["row", "many"] spWalkOf) (G_walkagrees : FnOk P w K mg base CX0 9 f_wa fd_wa ["walk"] spAgrees) (G_raceline : FnOk P w K mg base (L2N.CX P w) 6 f_rl fd_rl ["own", "other", "shared"] (spLine C)) (G_lineasked : FnOk P w K mg base CX0 7 f_la fd_la ["row"] spLineAsked)
    (G_racedue : FnOk P w K mg base CX0 2 f_rd fd_rd ["own", "other", "shared", "high"] spDue) (G_same : FnOk P w K mg base CX0 8 f_same fd_same ["one", "two"] (spSame 3)) : FnOk P w K mg base CX0 10 f fd ["script"] (spLaw K) := by
  refine D.F.ok sc_law (fun vs H Q E h => ?_) (fun cdv A outer s H vs Q E hr h => ?_)
  · obtain ⟨a, ns, rfl, _⟩ := h
    rfl
  · obtain ⟨sa, ns, rfl, hs, hl, q⟩ := h
    refine ⟨_, (pss_cons (ps_set (i := 1) sc_law.nd rfl (.inl rfl) (pe_call G_store (hr.mono (by omega)) (by rfl) D_store.g D_store.F.kp D_store.b .nil pass0 (pa_cons (pv 0) pa_nil)))
      (pss_cons (ps_set (i := 2) sc_law.nd rfl (.inl rfl) (pe_lst pa_nil))
      (pss_cons (ps_for PassesOwn.never rfl (pi_range1 (by rfl) B.range (pa_cons pe_int pa_nil)) (pg_name (i := 3) sc_law.nd rfl (.inl rfl)) (pss_one (ps_expr (pe_bm PySem.F.plainAttrs_list PySem.F.slot_list_append PySem.F.type_list_append mt_append (pv 2) (pa_cons (pe_call G_race (hr.mono (by omega)) (by rfl) D_race.g D_race.F.kp D_race.b .nil pass0 (pa_cons (pv 1) (pa_cons (pe_call G_pickL (hr.mono (by omega)) (by rfl) D_pick.g D_pick.F.kp D_pick.b .nil pass0 (pa_cons (pv 1) (pa_cons (pe_lst (pa_cons pe_int (pa_cons pe_int (pa_cons pe_int (pa_cons pe_int pa_nil))))) pa_nil))) pa_nil))) pa_nil)))))
      (pss_cons (ps_set (i := 4) sc_law.nd rfl (.inl rfl) (pe_call G_badrace (hr.mono (by omega)) (by rfl) D_badrace.g D_badrace.F.kp D_badrace.b .nil pass0 (pa_cons (pv 1) (pa_cons pe_int pa_nil))))
      (pss_cons (ps_set (i := 5) sc_law.nd rfl (.inl rfl) (pe_lst pa_nil))
      (pss_cons (ps_for PassesOwn.never rfl (pi_listK (K := K) (pv 2)) (pg_name (i := 6) sc_law.nd rfl (.inl rfl)) (pss_cons (ps_set (i := 7) sc_law.nd rfl (.inl rfl) (pe_call G_walkof (hr.mono (by omega)) (by rfl) D_walkof.g D_walkof.F.kp D_walkof.b .nil pass0 (pa_cons (pv 6) (pa_cons (pe_op op_mul pe_int (pe_op op_add (pe_op op_add (pe_ix (ix_sxK (K := K)) (pv 6) pe_int (fun _ _ => rfl)) (pe_ix (ix_sxK (K := K)) (pv 6) pe_int (fun _ _ => rfl))) (pe_ix (ix_sxK (K := K)) (pv 6) pe_int (fun _ _ => rfl)))) pa_nil))))
      (pss_cons (ps_if (PW.pt (pw_or (pt_cmpR op_isN (pe_ix (ix_sxK (K := K)) (pv 7) pe_int (fun _ _ => rfl)) pe_non (nomark _)) (pw_or1 (pt_not (pt_val (pe_call G_walkagrees (hr.mono (by omega)) (by rfl) D_walkagrees.g D_walkagrees.F.kp D_walkagrees.b .nil pass0 (pa_cons (pv 7) pa_nil))))))) (pss_one (ps_ret pe_bl)) pss_nil)
      (pss_one (ps_expr (pe_bm PySem.F.plainAttrs_list PySem.F.slot_list_append PySem.F.type_list_append mt_append (pv 5) (pa_cons (pe_tup (pa_cons (pe_lc (own := [("step", 10)]) (g := gName 10) (tt := tYes) (by rfl) sc_law.nd (pi_listK (K := K) (pe_ix (ix_sxK (K := K)) (pv 7) pe_int (fun _ _ => rfl))) (blkOk_by (own := [("step", 10)]) (N := ["script", "store", "races", "k", "odd", "dues", "row", "walk", "told", "due", "step"]) (sc := defScope s_law) (by decide +kernel)) (fun _ _ _ _ _ => pg_name (i := 10) sc_law.nd rfl (Or.inl rfl)) (fun _ _ _ _ _ => pts_nil) (fun _ _ _ _ _ => (pe_ix (ix_sxK (K := K)) (pv 10) pe_int (fun _ _ => rfl)))) (pa_cons (pe_ix (ix_sxK (K := K)) (pv 7) pe_int (fun _ _ => rfl)) pa_nil))) pa_nil)))))))
      (pss_cons (ps_for PassesOwn.never rfl (pi_listK (K := K) (pe_lst (pa_cons pe_int (pa_cons pe_int (pa_cons pe_int (pa_cons pe_int (pa_cons pe_int pa_nil))))))) (pg_name (i := 3) sc_law.nd rfl (.inl rfl)) (pss_cons (ps_set (i := 8) sc_law.nd rfl (.inl rfl) (pe_callS G_raceline (hr.mono (by omega)) rfl D_raceline.g D_raceline.F.kp D_raceline.b passS0 (pa_cons (pe_ix (ix_sxK (K := K)) (pe_ix (ix_listK (K := K)) (pv 2) (pv 3) (fun _ _ => rfl)) pe_int (fun _ _ => rfl)) (pa_cons (pe_ix (ix_sxK (K := K)) (pe_ix (ix_listK (K := K)) (pv 2) (pv 3) (fun _ _ => rfl)) pe_int (fun _ _ => rfl)) (pa_cons (pe_ix (ix_sxK (K := K)) (pe_ix (ix_listK (K := K)) (pv 2) (pv 3) (fun _ _ => rfl)) pe_int (fun _ _ => rfl)) pa_nil)))))
      (pss_cons (ps_if (pt_not (pt_val (pe_call G_same (hr.mono (by omega)) (by rfl) D_same.g D_same.F.kp D_same.b .nil pass0 (pa_cons (pv 8) (pa_cons (pe_ix (ix_listK (K := K)) (pv 5) (pv 3) (fun _ _ => rfl)) pa_nil))))) (pss_one (ps_ret pe_bl)) pss_nil)
      (pss_cons (ps_expr (pe_bm PySem.F.plainAttrs_list PySem.F.slot_list_append PySem.F.type_list_append mt_append (pe_ix (ix_sxK (K := K)) (pv 8) pe_int (fun _ _ => rfl)) (pa_cons pe_str pa_nil)))
      (pss_one (ps_asg pe_str (pg_sub (pe_ix (ix_sxK (K := K)) (pv 8) pe_int (fun _ _ => rfl)) pe_int set_list (fun _ => rfl))))))))
      (C8.pss_cut (ps_set (i := 9) sc_law.nd rfl (.inl rfl) (pe_call G_racedue (hr.mono (by omega)) (by rfl) D_racedue.g D_racedue.F.kp D_racedue.b .nil pass0 (pa_cons (pe_ix (ix_sxK (K := K)) (pv 4) pe_int (fun _ _ => rfl)) (pa_cons (pe_ix (ix_sxK (K := K)) (pv 4) pe_int (fun _ _ => rfl)) (pa_cons (pe_ix (ix_sxK (K := K)) (pv 4) pe_int (fun _ _ => rfl)) (pa_cons pe_int pa_nil))))))
      (C8.pss_cut (ps_if (PW.pt (pw_and (pt_cmpR op_notN (pv 9) pe_non (nomark _)) (pw_and1 (pt_not (pt_val (pe_call G_same (hr.mono (by omega)) (by rfl) D_same.g D_same.F.kp D_same.b .nil pass0 (pa_cons (pe_call G_lineasked (hr.mono (by omega)) (by rfl) D_lineasked.g D_lineasked.F.kp D_lineasked.b .nil pass0 (pa_cons (pv 4) pa_nil)) (pa_cons (pe_tup (pa_cons pe_str (pa_cons pe_str (pa_cons (pv 9) (pa_cons pe_bl pa_nil))))) pa_nil)))))))) (pss_one (ps_ret pe_bl)) pss_nil)
      (pss_one (ps_ret (pe_call G_same (hr.mono (by omega)) (by rfl) D_same.g D_same.F.kp D_same.b .nil pass0 (pa_cons (pe_call G_lineasked (hr.mono (by omega)) (by rfl) D_lineasked.g D_lineasked.F.kp D_lineasked.b .nil pass0 (pa_cons (pe_ix (ix_listK (K := K)) (pv 2) pe_int (fun _ _ => rfl)) pa_nil)) (pa_cons (pe_tup (pa_cons pe_str (pa_cons (pe_ix (ix_listK (K := K)) (pv 5) pe_int (fun _ _ => rfl)) pa_nil))) pa_nil)))))))))))))), ?_⟩
    walk_at "st"
    refine ⟨sa, ns, rfl, hs, hl, fun a c H1 same na S1 => ?_⟩
    walk_at "st"
    refine ⟨by decide, fun pr npr => ?_⟩
    have pra := S1.ne1 npr
    have prc := S1.ne2 npr
    have S2 := S1.new (o := .lst []) npr
    have hpr : L2.upd H1 pr (.lst []) pr = some (.lst []) := upd_same
    generalize L2.upd H1 pr (.lst []) = H2 at S2 hpr ⊢
    walk_at "st"
    refine ⟨by decide, by decide, ?_⟩
    refine r_range (fun i σ H' => (∃ x3 : Option V, σ = [some (.ref sa), some (.ref a), some (.ref pr), x3, none, none, none, none, none, none, none]) ∧ StoreAt H' a c ∧ ∃ ps rs, H' pr = some (.lst ps) ∧ rs.length = i ∧ LAt RaceAt H' rs ps) ⟨⟨_, rfl⟩, S2, [], [], hpr, rfl, rfl, fun i x v e => by cases e⟩ ?_ ?_
    · rintro i σ H3 hi ⟨⟨x3, rfl⟩, S3, ps, rs, hps, hlen, hall⟩ N k
      have hi : i < 3 := hi
      walk_at "rt"
      refine ⟨.inl ⟨rfl, _, sq_of hps⟩, by decide, fun p np => ⟨a, c, p, _, rfl, S3.new np, upd_same, S3.ne1 np, by simp, Nat.le_of_ble_eq_true rfl, fun v H4 S4 b4 hv => ?_⟩⟩
      have hv : ∃ i, v = .int i ∧ 1 ≤ i ∧ i ≤ 30 := by
        simp only [List.mem_cons, List.not_mem_nil, or_false] at hv
        rcases hv with h | h | h | h <;> exact ⟨_, h, by decide, by decide⟩
      obtain ⟨hi', rfl, h1, h2⟩ := hv
      have b34 : But a H3 H4 := (But.new np).trans b4
      refine ⟨a, c, hi', rfl, S4, h1, by omega, fun t H5 x y z S5 b5 ht R => ?_⟩
      have R : Race 30 x y z := ⟨R.a0, by have := R.a1; omega, R.b0, by have := R.b1; omega, R.c0, by have := R.c1; omega, R.ac, R.bc⟩
      have b35 := b34.trans b5
      have hps5 := b35 _ _ pra hps
      obtain ⟨sl, hsl⟩ := store_lst S3
      walk_at "rt"
      refine ⟨ps, hps5, size_ok (by rw [hall.1]; omega), ?_⟩
      have tpr : t ≠ pr := fun z => by rw [z, hps5] at ht; cases ht
      refine k _ _ ⟨⟨_, rfl⟩, S5.put pra prc, ps ++ [.ref t], rs ++ [(x, y, z)], upd_same, by rw [List.length_append, hlen]; rfl, ?_⟩
      exact ((hall.mono (RaceAt.but b35 hsl)).mono (RaceAt.but But.updA hps5)).snoc ⟨t, rfl, (upd_ne tpr).trans ht, R⟩
    rintro σ H3 ⟨⟨x3, rfl⟩, S3, ps, rs, hps, hlen, hall⟩
    clear hpr S2 npr
    have hlen : rs.length = 3 := hlen
    walk_at "st"
    refine ⟨a, c, _, rfl, S3, by decide, by decide, fun od H4 x y z S4 b4 hod tx ty tz => ?_⟩
    obtain ⟨sl, hsl⟩ := store_lst S3
    have hps4 := b4 _ _ pra hps
    have hall4 := hall.mono (RaceAt.but b4 hsl)
    walk_at "st"
    refine ⟨by decide, fun pd npd => ?_⟩
    have k45 : Keeps H4 (L2.upd H4 pd (.lst [])) := Keeps.new npd
    have hpd : L2.upd H4 pd (.lst []) pd = some (.lst []) := upd_same
    generalize L2.upd H4 pd (.lst []) = H5 at k45 hpd ⊢
    have hps5 := k45 _ _ hps4
    have hall5 := hall4.mono (RaceAt.keep k45)
    have prd : pr ≠ pd := kp_ne hps4 npd
    have hod5 := k45 _ _ hod
    walk_at "st"
    refine ⟨⟨_, sq_of hps5⟩, ?_⟩
    refine r_list (K := K) (a := pr) ps (fun i σ H' => (∃ x3 x6 x7 : Option V, σ = [some (.ref sa), some (.ref a), some (.ref pr), x3, some (.ref od), some (.ref pd), x6, x7, none, none, none]) ∧ Keeps H4 H' ∧ ∃ ds, H' pd = some (.lst ds) ∧ LAt (DueAt pd) H' (rs.take i) ds) ⟨⟨_, _, _, rfl⟩, k45, [], hpd, rfl, fun i x v e => by cases e⟩ (fun i σ H' _ h => sq_of (h.2.1 _ _ hps4)) ?_ ?_
    · rintro i v σ H6 hv ⟨⟨x3, x6, x7, rfl⟩, k6, ds, hds, hdue⟩ N kN
      have hi := lt_of_get hv
      obtain ⟨r, hr⟩ : ∃ r, rs[i]? = some r := ⟨_, List.getElem?_eq_getElem (by rw [← hall.1]; exact hi)⟩
      obtain ⟨t, rfl, ht, R⟩ := RaceAt.keep k6 _ _ (hall4.2 i r v hr hv)
      obtain ⟨x, y, z⟩ := r
      have sw : SqL K H6 t [.int x, .int y, .int z] ∨ SqT K H6 t [.int x, .int y, .int z] := .inr (.inl (.inl ht))
      walk_at "st"
      repeat (first | (with_reducible refine ⟨_, sw, _, rfl, ?_⟩) | (with_reducible refine ⟨_, rfl, ?_⟩))
      refine ⟨.inl ⟨by decide, by decide⟩, t, x, y, z, rfl, ht, R, fun u H7 k7 hw => ?_⟩
      obtain ⟨lw, wvs, hu7, hlw7, hst7⟩ := id hw
      have su : ∀ {H'}, Keeps H7 H' → (SqL K H' u [.ref lw, .str (nm (rk x y z false))] ∨ SqT K H' u [.ref lw, .str (nm (rk x y z false))]) := fun k => .inr (.inl (.inl (k _ _ hu7)))
      walk_at "st"
      refine ⟨_, su (Keeps.refl _), _, rfl, ?_⟩
      walk_at "rt"
      refine ⟨u, x, y, z, rfl, R, hw, fun H8 k8 => ?_⟩
      refine ⟨true, rfl, ite2 (fun e => by cases e) (fun _ => ?_)⟩
      have k68 := Keeps.trans k7 k8
      have hds8 := k68 _ _ hds
      have hlw8 := k8 _ _ hlw7
      have hst8 := hst7.keep k8
      have wl : (Wk x y z).length ≤ 200 := Wk_len R
      walk_at "rt"
      refine ⟨.inl ⟨rfl, _, sq_of hds8⟩, _, su k8, _, rfl, lw, rfl, ⟨_, sq_of hlw8⟩, fun ld nld => ?_⟩
      have ldd : ld ≠ pd := (kp_ne hds8 nld).symm
      refine r_lcTL (K := K) (a := lw) wvs (fun i H' => Keeps H8 H' ∧ H' ld = some (.lst (((Wk x y z).take i).map sv))) (fun x => rfl) ⟨Keeps.new nld, upd_same⟩ (fun i H' _ h => sq_of (h.1 _ _ hlw8)) ?_ ?_
      · rintro j v H9 hv ⟨k9, h9⟩ N2 kN2
        have hj := lt_of_get hv
        obtain ⟨s, hs⟩ : ∃ s, (Wk x y z)[j]? = some s := ⟨_, List.getElem?_eq_getElem (by rw [← hst7.1]; exact hj)⟩
        obtain ⟨r, row, rfl, hr, hrow⟩ := (hst8.2 j s v hs hv).keep k9
        walk_at "rt"
        refine ⟨_, .inr (.inl (.inl hr)), _, rfl, ?_⟩
        refine kN2 _ _ _ h9 (size_ok (by rw [List.length_map, List.length_take]; omega)) ⟨k9.put nld, ?_⟩
        rw [upd_same]
        exact congrArg (fun x => some (HO.lst x)) (take_map hs)
      · rintro H9 ⟨k9, h9⟩
        rw [hst7.1, List.take_length] at h9
        walk_at "rt"
        have k69 := Keeps.trans k68 k9
        refine ⟨_, su (Keeps.trans k8 k9), _, rfl, by decide, fun p np => ⟨ds, But0.new np _ _ (k9 _ _ hds8), size_ok (by rw [hdue.1, List.length_take]; omega), ?_⟩⟩
        have hpd' : L2.upd H9 p (.tup [.ref ld, .str (nm (rk x y z false))]) pd = some (.lst ds) := But0.new np _ _ (k9 _ _ hds8)
        have ldp : ld ≠ p := kp_ne h9 np
        have pdp : pd ≠ p := kp_ne (k9 _ _ hds8) np
        refine kN _ _ ⟨⟨_, _, _, rfl⟩, Keeps.put (Keeps.trans k6 (k69.put (k69.free np))) npd, ds ++ [.ref p], upd_same, ?_⟩
        rw [List.take_add_one, hr]
        refine ((hdue.mono (DueAt.keep (k69.put (x := .tup [.ref ld, .str (nm (rk x y z false))]) (k69.free np)))).mono (DueAt.but But.updA hpd')).snoc ?_
        exact ⟨p, ld, rfl, ldd, (upd_ne (Ne.symm pdp)).trans upd_same, (upd_ne ldd).trans ((upd_ne ldp).trans h9)⟩
    rintro σ H6 ⟨⟨x3, x6, x7, rfl⟩, k6, ds, hds, hdue⟩
    rw [hall.1, List.take_length] at hdue
    have hall6 := hall4.mono (RaceAt.keep k6)
    have hps6 := k6 _ _ hps4
    have hod6 := k6 _ _ hod
    walk_at "st"
    refine ⟨by decide, fun pk npk => ⟨⟨_, sq_of upd_same⟩, ?_⟩⟩
    have k67 : Keeps H6 (L2.upd H6 pk (.lst [.int 0, .int 1, .int 2, .int 1, .int 0])) := Keeps.new npk
    have hpk : L2.upd H6 pk (.lst [.int 0, .int 1, .int 2, .int 1, .int 0]) pk = some (.lst [.int 0, .int 1, .int 2, .int 1, .int 0]) := upd_same
    generalize L2.upd H6 pk (.lst [.int 0, .int 1, .int 2, .int 1, .int 0]) = H7 at k67 hpk ⊢
    refine r_list (K := K) (a := pk) [.int 0, .int 1, .int 2, .int 1, .int 0] (fun i σ H' => (∃ x3 x8 : Option V, σ = [some (.ref sa), some (.ref a), some (.ref pr), x3, some (.ref od), some (.ref pd), x6, x7, x8, none, none]) ∧ Keeps H7 H') ⟨⟨_, _, rfl⟩, Keeps.refl _⟩ (fun i σ H' _ h => sq_of (h.2 _ _ hpk)) ?_ ?_
    · rintro i v σ H8 hv ⟨⟨x3, x8, rfl⟩, k8⟩ N kN
      obtain ⟨j, hj, rfl⟩ : ∃ j : Nat, j < 3 ∧ v = .int j := by
        have := List.mem_of_getElem? hv
        simp only [List.mem_cons, List.not_mem_nil, or_false] at this
        rcases this with h | h | h | h | h
        · exact ⟨0, by decide, h⟩
        · exact ⟨1, by decide, h⟩
        · exact ⟨2, by decide, h⟩
        · exact ⟨1, by decide, h⟩
        · exact ⟨0, by decide, h⟩
      have k68 := Keeps.trans k67 k8
      have hps8 := k68 _ _ hps6
      have hds8 := k68 _ _ hds
      obtain ⟨r, v, hrj, hvj, hra⟩ := (hall6.mono (RaceAt.keep k68)).get (i := j) (by omega)
      obtain ⟨t, rfl, ht, R⟩ := hra
      obtain ⟨r', dv, hrj', hdj, hda⟩ := (hdue.mono (DueAt.keep k68)).get (i := j) (by omega)
      rw [hrj] at hrj'
      cases hrj'
      obtain ⟨rd, ld, rfl, ldd, hrd, hld⟩ := hda
      obtain ⟨x, y, z⟩ := r
      have sw : SqL K H8 t [.int x, .int y, .int z] ∨ SqT K H8 t [.int x, .int y, .int z] := .inr (.inl (.inl ht))
      have atp : atI ps (j : Int) = some (.ref t) := atI_nat hvj
      have atd : atI ds (j : Int) = some (.ref rd) := atI_nat hdj
      walk_at "st"
      repeat (first | (with_reducible refine ⟨_, sw, _, rfl, ?_⟩) | (with_reducible refine ⟨_, sq_of hps8, _, atp, ?_⟩) | (with_reducible refine ⟨_, rfl, ?_⟩))
      refine ⟨_, _, _, rfl, th_int _, th_int _, th_int _, fun a' b' c' R' ea eb ec u l H9 k9 nl hl9 hu9 => ?_, fun wh v ef => (by rw [race_fault R] at ef; cases ef)⟩
      cases ea; cases eb; cases ec
      walk_at "st"
      refine ⟨_, sq_of (k9 _ _ hds8), _, atd, ?_⟩
      refine same_ok (line_at (x := (x, y, z)) R hl9 hu9) (line_at (x := (x, y, z)) R (k9 _ _ hld) (k9 _ _ hrd)) (Nat.le_succ_of_le (line_dep _)) ?_
      refine ⟨true, rfl, ite2 (fun e => by cases e) (fun _ => ?_)⟩
      have wl : (Wk x y z).length ≤ 200 := Wk_len R
      have su : SqL K H9 u [.ref l, .str (nm (rk x y z false))] ∨ SqT K H9 u [.ref l, .str (nm (rk x y z false))] := .inr (.inl (.inl hu9))
      walk_at "st"
      refine ⟨_, su, _, rfl, .inl ⟨rfl, _, sq_of hl9⟩, l, rfl, _, hl9, size_ok (by rw [List.length_map]; omega), ?_⟩
      have k10 : Keeps H8 (L2.upd H9 l (.lst ((Wk x y z).map sv ++ [V.str (Str.ofString "pass")]))) := k9.put nl
      have hu10 : L2.upd H9 l (.lst ((Wk x y z).map sv ++ [V.str (Str.ofString "pass")])) u = some (.tup [.ref l, .str (nm (rk x y z false))]) := (upd_ne (fun z => by rw [z, hl9] at hu9; cases hu9)).trans hu9
      have hl10 : L2.upd H9 l (.lst ((Wk x y z).map sv ++ [V.str (Str.ofString "pass")])) l = some (.lst ((Wk x y z).map sv ++ [V.str (Str.ofString "pass")])) := upd_same
      generalize L2.upd H9 l (.lst ((Wk x y z).map sv ++ [V.str (Str.ofString "pass")])) = H10 at k10 hu10 hl10 ⊢
      walk_at "rt"
      refine ⟨_, .inr (.inl (.inl hu10)), _, rfl, l, rfl, _, hl10, 0, ?_, kN _ _ ⟨⟨_, _, rfl⟩, Keeps.trans k8 (k10.put nl)⟩⟩
      exact ix0 (by rw [List.length_append, List.length_singleton]; omega)
    rintro σ H8 ⟨⟨x3, x8, rfl⟩, k8⟩
    have k68 := Keeps.trans k67 k8
    have hps8 := k68 _ _ hps6
    have hds8 := k68 _ _ hds
    have hod8 := k68 _ _ hod6
    have so : SqL K H8 od [x, y, z] ∨ SqT K H8 od [x, y, z] := .inr (.inl (.inl hod8))
    refine r_cut (fun σ H' => ∃ dv, σ = [some (.ref sa), some (.ref a), some (.ref pr), x3, some (.ref od), some (.ref pd), x6, x7, x8, some dv, none] ∧ Keeps H8 H' ∧ ((dv = .non ∧ fault x y z 30 = none) ∨ ∃ wh v fu, fault x y z 30 = some (wh, v) ∧ dv = .ref fu ∧ H' fu = some (.tup [.str wh, v]))) (fun N k => ?_) ?_
    · walk_at "rt"
      exact ⟨_, so, _, rfl, _, so, _, rfl, _, so, _, rfl, x, y, z, _, rfl, tx, ty, tz, fun ef => k _ _ ⟨_, rfl, Keeps.refl _, .inl ⟨rfl, ef⟩⟩, fun wh v ef fu H6 k6 hfu => k _ _ ⟨_, rfl, k6, .inr ⟨wh, v, fu, ef, rfl, hfu⟩⟩⟩
    rintro σ H9 ⟨dv, rfl, k9, hdv⟩
    have k69 := Keeps.trans k68 k9
    obtain ⟨r, v, hrj, hvj, hra⟩ := (hall6.mono (RaceAt.keep k69)).get (i := 2) (by omega)
    obtain ⟨t, rfl, ht, R⟩ := hra
    obtain ⟨r', dw, hrj', hdj, hda⟩ := (hdue.mono (DueAt.keep k69)).get (i := 2) (by omega)
    rw [hrj] at hrj'
    cases hrj'
    obtain ⟨rd, ld, rfl, ldd, hrd, hld⟩ := hda
    obtain ⟨x', y', z'⟩ := r
    refine r_cut (fun σ H' => σ = [some (.ref sa), some (.ref a), some (.ref pr), x3, some (.ref od), some (.ref pd), x6, x7, x8, some dv, none] ∧ Keeps H9 H') (fun N kN => ?_) ?_
    · rcases hdv with ⟨rfl, ef⟩ | ⟨wh, v, fu, ef, rfl, hfu⟩
      · walk_at "rt"
        exact kN _ _ ⟨rfl, Keeps.refl _⟩
      · walk_at "rt"
        refine ⟨od, x, y, z, rfl, k9 _ _ hod8, tx, ty, tz, fun a' b' c' R' ea eb ec => (by rw [ea, eb, ec, race_fault R'] at ef; cases ef), fun wh' v' ef' u r H10 k10 hr hu => ?_⟩
        obtain ⟨rfl, rfl⟩ : wh = wh' ∧ v = v' := by
          rw [ef] at ef'
          cases ef'
          exact ⟨rfl, rfl⟩
        obtain ⟨X, hX, dX⟩ := thing_dat (fault_thing ef tx ty tz)
        refine ⟨by decide, fun du ndu => ?_⟩
        refine same_ok (d := .tup [.str (Str.ofString "raised"), .str (Str.ofString "BadNumber"), .tup [.str wh, X], .bl true])
          (at_tup (But0.new ndu _ _ hu) (Nat.le_of_ble_eq_true rfl) (atl_cons rfl (atl_cons rfl (atl_cons (at_tup (But0.new ndu _ _ hr) (Nat.le_of_ble_eq_true rfl) (atl_cons rfl (atl_cons (hX _ _) rfl))) (atl_cons rfl rfl)))))
          (at_tup upd_same (Nat.le_of_ble_eq_true rfl) (atl_cons rfl (atl_cons rfl (atl_cons (at_tup (But0.new ndu _ _ (k10 _ _ hfu)) (Nat.le_of_ble_eq_true rfl) (atl_cons rfl (atl_cons (hX _ _) rfl))) (atl_cons rfl rfl)))))
          (by simp only [Dat.dep, depL, dX]; decide) ?_
        exact ⟨true, rfl, ite2 (fun e => by cases e) (fun _ => kN _ _ ⟨rfl, k10.put (k10.free ndu)⟩)⟩
    · rintro σ H10 ⟨rfl, k10⟩
      walk_at "rt"
      refine ⟨_, sq_of (k10 _ _ (k9 _ _ hps8)), .ref t, atI_nat (j := 2) hvj, t, _, _, _, rfl, k10 _ _ ht, th_int _, th_int _, th_int _, fun a' b' c' R' ea eb ec v u l H11 k11 hl hu hv => ?_, fun wh v ef => (by rw [race_fault R] at ef; cases ef)⟩
      cases ea; cases eb; cases ec
      refine ⟨_, sq_of (k11 _ _ (k10 _ _ (k9 _ _ hds8))), .ref rd, atI_nat (j := 2) hdj, by decide, fun p np => ?_⟩
      refine same_ok (d := .tup [.str (Str.ofString "gave"), lineDat (x', y', z')]) (at_tup (But0.new np _ _ hv) (Nat.le_of_ble_eq_true rfl) (atl_cons rfl (atl_cons (line_at (x := (x', y', z')) R (But0.new np _ _ hl) (But0.new np _ _ hu)) rfl)))
        (at_tup upd_same (Nat.le_of_ble_eq_true rfl) (atl_cons rfl (atl_cons (line_at (x := (x', y', z')) R (But0.new np _ _ (k11 _ _ (k10 _ _ hld))) (But0.new np _ _ (k11 _ _ (k10 _ _ hrd)))) rfl))) ?_ (q _)
      have := line_dep (x', y', z')
      simp only [Dat.dep, depL]
      omega
end
end K01
namespace K01
open PySem PySem.Spec PyProof.Rows L2 TL HotExc
/-! ### what the top has written; the end -/
set_option maxHeartbeats 8000000 in
theorem all_mk {l : PySem.W.OpenLaw} {w : World} {K : PySem.W.Frag} {h : Heap} {mg : Str → Option Value} {fa : Addr} (X : K.In h) (G : h.Ns mainGlobals mg) (hfa : mg "law" = some (.ref fa))
    {f_isnumber f_checknumber f_racevalue f_racebest f_raceline f_checkbounds f_checkrace f_valuebyrule f_bestdeed f_afterdeed f_store f_mixed f_take f_pick f_chance f_number f_badnumber f_same f_samerows f_race f_badrace f_Lisnumber f_racedue f_Lracevalue f_Lraceafter f_Lracebest f_lineasked f_walkof f_walkagrees f_law : Addr} {od_isnumber an_isnumber od_checknumber an_checknumber od_racevalue an_racevalue od_racebest an_racebest od_raceline an_raceline od_checkbounds an_checkbounds od_checkrace an_checkrace od_valuebyrule an_valuebyrule od_bestdeed an_bestdeed od_afterdeed an_afterdeed od_store an_store od_mixed an_mixed od_take an_take od_pick an_pick od_chance an_chance od_number an_number od_badnumber an_badnumber od_same an_same od_samerows an_samerows od_race an_race od_badrace an_badrace od_Lisnumber an_Lisnumber od_racedue an_racedue od_Lracevalue an_Lracevalue od_Lraceafter an_Lraceafter od_Lracebest an_Lracebest od_lineasked an_lineasked od_walkof an_walkof od_walkagrees an_walkagrees od_law an_law : Option Addr} {sl_isnumber sl_checknumber sl_racevalue sl_racebest sl_raceline sl_checkbounds sl_checkrace sl_valuebyrule sl_bestdeed sl_afterdeed sl_store sl_mixed sl_take sl_pick sl_chance sl_number sl_badnumber sl_same sl_samerows sl_race sl_badrace sl_Lisnumber sl_racedue sl_Lracevalue sl_Lraceafter sl_Lracebest sl_lineasked sl_walkof sl_walkagrees sl_law : Array (Option Value)}
    {oc_isnumber dc_isnumber pm_isnumber cd_isnumber ct_isnumber oc_checknumber dc_checknumber pm_checknumber cd_checknumber ct_checknumber oc_racevalue dc_racevalue pm_racevalue cd_racevalue ct_racevalue oc_racebest dc_racebest pm_racebest cd_racebest ct_racebest oc_raceline dc_raceline pm_raceline cd_raceline ct_raceline oc_checkbounds dc_checkbounds pm_checkbounds cd_checkbounds ct_checkbounds oc_checkrace dc_checkrace pm_checkrace cd_checkrace ct_checkrace oc_valuebyrule dc_valuebyrule pm_valuebyrule cd_valuebyrule ct_valuebyrule oc_bestdeed dc_bestdeed pm_bestdeed cd_bestdeed ct_bestdeed oc_afterdeed dc_afterdeed pm_afterdeed cd_afterdeed ct_afterdeed oc_store dc_store pm_store cd_store ct_store oc_mixed dc_mixed pm_mixed cd_mixed ct_mixed oc_take dc_take pm_take cd_take ct_take oc_pick dc_pick pm_pick cd_pick ct_pick oc_chance dc_chance pm_chance cd_chance ct_chance oc_number dc_number pm_number cd_number ct_number oc_badnumber dc_badnumber pm_badnumber cd_badnumber ct_badnumber oc_same dc_same pm_same cd_same ct_same oc_samerows dc_samerows pm_samerows cd_samerows ct_samerows oc_race dc_race pm_race cd_race ct_race oc_badrace dc_badrace pm_badrace cd_badrace ct_badrace oc_Lisnumber dc_Lisnumber pm_Lisnumber cd_Lisnumber ct_Lisnumber oc_racedue dc_racedue pm_racedue cd_racedue ct_racedue oc_Lracevalue dc_Lracevalue pm_Lracevalue cd_Lracevalue ct_Lracevalue oc_Lraceafter dc_Lraceafter pm_Lraceafter cd_Lraceafter ct_Lraceafter oc_Lracebest dc_Lracebest pm_Lracebest cd_Lracebest ct_Lracebest oc_lineasked dc_lineasked pm_lineasked cd_lineasked ct_lineasked oc_walkof dc_walkof pm_walkof cd_walkof ct_walkof oc_walkagrees dc_walkagrees pm_walkagrees cd_walkagrees ct_walkagrees oc_law dc_law pm_law cd_law ct_law : Value} {kV_isnumber kV_checknumber kV_raceline kV_checkbounds kV_checkrace kV_valuebyrule kV_bestdeed kV_afterdeed kV_store kV_mixed kV_take kV_pick kV_chance kV_number kV_badnumber kV_same kV_samerows kV_race kV_badrace kV_Lisnumber kV_racedue kV_Lracevalue kV_Lraceafter kV_Lracebest kV_lineasked kV_walkof kV_walkagrees kV_law : Value} {aK_racevalue aK_racebest : Addr}
    {c_BadNumber c_TworoomsError c_NoEntry c_TooMany c_BadName : Addr}
    {t_MOST_FREE_PLACES t_MOST_IN_LINE t_FILL t_SHARE t_OWN t_PASS_DEED t_WINS t_LOSES t_PEACE : Tok}
    {nm_BadNumber q_BadNumber : Str} {N_BadNumber fI_BadNumber : Addr} {bs_BadNumber bm_BadNumber sub_BadNumber : List Value} {sn_BadNumber : List Str} {ab_BadNumber : Bool} {col_BadNumber : Option Bool} {dd_BadNumber odI_BadNumber anI_BadNumber : Option Addr} {m0_BadNumber m1_BadNumber m2_BadNumber m3_BadNumber m5_BadNumber : Option Value} {ocI_BadNumber kVI_BadNumber dcI_BadNumber pmI_BadNumber cdI_BadNumber ctI_BadNumber : Value} {slI_BadNumber : Array (Option Value)}
    (a_isnumber : PySem.W.nsIn K mainGlobals "is_number" = some (some (.ref f_isnumber))) (l_isnumber : K.lookup f_isnumber = some ⟨oc_isnumber, od_isnumber, .func (PySem.W.fnOf "is_number" "is_number" (defArgs s_isnumber) (defBody s_isnumber) (defScope s_isnumber) .none kV_isnumber dc_isnumber pm_isnumber an_isnumber cd_isnumber ct_isnumber), sl_isnumber⟩) (c_f_isnumber : PySem.W.codeIn K cd_isnumber "is_number" = true) (k_isnumber : PySem.W.keepIn K (.ref f_isnumber) = true)
    (a_checknumber : PySem.W.nsIn K mainGlobals "check_number" = some (some (.ref f_checknumber))) (l_checknumber : K.lookup f_checknumber = some ⟨oc_checknumber, od_checknumber, .func (PySem.W.fnOf "check_number" "check_number" (defArgs s_checknumber) (defBody s_checknumber) (defScope s_checknumber) .none kV_checknumber dc_checknumber pm_checknumber an_checknumber cd_checknumber ct_checknumber), sl_checknumber⟩) (c_f_checknumber : PySem.W.codeIn K cd_checknumber "check_number" = true) (k_checknumber : PySem.W.keepIn K (.ref f_checknumber) = true)
    (a_racevalue : PySem.W.nsIn K mainGlobals "race_value" = some (some (.ref f_racevalue))) (l_racevalue : K.lookup f_racevalue = some ⟨oc_racevalue, od_racevalue, .func (PySem.W.fnOf "race_value" "race_value" (defArgs s_racevalue) (defBody s_racevalue) (defScope s_racevalue) .none (.ref aK_racevalue) dc_racevalue pm_racevalue an_racevalue cd_racevalue ct_racevalue), sl_racevalue⟩) (c_f_racevalue : PySem.W.codeIn K cd_racevalue "race_value" = true) (k_racevalue : PySem.W.keepIn K (.ref f_racevalue) = true)
    (kw_racevalue : PySem.W.nsIn K aK_racevalue "after_pass" = some (some (.bool false)))
    (a_racebest : PySem.W.nsIn K mainGlobals "race_best" = some (some (.ref f_racebest))) (l_racebest : K.lookup f_racebest = some ⟨oc_racebest, od_racebest, .func (PySem.W.fnOf "race_best" "race_best" (defArgs s_racebest) (defBody s_racebest) (defScope s_racebest) .none (.ref aK_racebest) dc_racebest pm_racebest an_racebest cd_racebest ct_racebest), sl_racebest⟩) (c_f_racebest : PySem.W.codeIn K cd_racebest "race_best" = true) (k_racebest : PySem.W.keepIn K (.ref f_racebest) = true)
    (kw_racebest : PySem.W.nsIn K aK_racebest "after_pass" = some (some (.bool false)))
    (a_raceline : PySem.W.nsIn K mainGlobals "race_line" = some (some (.ref f_raceline))) (l_raceline : K.lookup f_raceline = some ⟨oc_raceline, od_raceline, .func (PySem.W.fnOf "race_line" "race_line" (defArgs s_raceline) (defBody s_raceline) (defScope s_raceline) .none kV_raceline dc_raceline pm_raceline an_raceline cd_raceline ct_raceline), sl_raceline⟩) (c_f_raceline : PySem.W.codeIn K cd_raceline "race_line" = true) (k_raceline : PySem.W.keepIn K (.ref f_raceline) = true)
    (a_checkbounds : PySem.W.nsIn K mainGlobals "check_bounds" = some (some (.ref f_checkbounds))) (l_checkbounds : K.lookup f_checkbounds = some ⟨oc_checkbounds, od_checkbounds, .func (PySem.W.fnOf "check_bounds" "check_bounds" (defArgs s_checkbounds) (defBody s_checkbounds) (defScope s_checkbounds) .none kV_checkbounds dc_checkbounds pm_checkbounds an_checkbounds cd_checkbounds ct_checkbounds), sl_checkbounds⟩) (c_f_checkbounds : PySem.W.codeIn K cd_checkbounds "check_bounds" = true) (k_checkbounds : PySem.W.keepIn K (.ref f_checkbounds) = true)
    (a_checkrace : PySem.W.nsIn K mainGlobals "check_race" = some (some (.ref f_checkrace))) (l_checkrace : K.lookup f_checkrace = some ⟨oc_checkrace, od_checkrace, .func (PySem.W.fnOf "check_race" "check_race" (defArgs s_checkrace) (defBody s_checkrace) (defScope s_checkrace) .none kV_checkrace dc_checkrace pm_checkrace an_checkrace cd_checkrace ct_checkrace), sl_checkrace⟩) (c_f_checkrace : PySem.W.codeIn K cd_checkrace "check_race" = true) (k_checkrace : PySem.W.keepIn K (.ref f_checkrace) = true)
    (a_valuebyrule : PySem.W.nsIn K mainGlobals "value_by_rule" = some (some (.ref f_valuebyrule))) (l_valuebyrule : K.lookup f_valuebyrule = some ⟨oc_valuebyrule, od_valuebyrule, .func (PySem.W.fnOf "value_by_rule" "value_by_rule" (defArgs s_valuebyrule) (defBody s_valuebyrule) (defScope s_valuebyrule) .none kV_valuebyrule dc_valuebyrule pm_valuebyrule an_valuebyrule cd_valuebyrule ct_valuebyrule), sl_valuebyrule⟩) (c_f_valuebyrule : PySem.W.codeIn K cd_valuebyrule "value_by_rule" = true) (k_valuebyrule : PySem.W.keepIn K (.ref f_valuebyrule) = true)
    (a_bestdeed : PySem.W.nsIn K mainGlobals "best_deed" = some (some (.ref f_bestdeed))) (l_bestdeed : K.lookup f_bestdeed = some ⟨oc_bestdeed, od_bestdeed, .func (PySem.W.fnOf "best_deed" "best_deed" (defArgs s_bestdeed) (defBody s_bestdeed) (defScope s_bestdeed) .none kV_bestdeed dc_bestdeed pm_bestdeed an_bestdeed cd_bestdeed ct_bestdeed), sl_bestdeed⟩) (c_f_bestdeed : PySem.W.codeIn K cd_bestdeed "best_deed" = true) (k_bestdeed : PySem.W.keepIn K (.ref f_bestdeed) = true)
    (a_afterdeed : PySem.W.nsIn K mainGlobals "after_deed" = some (some (.ref f_afterdeed))) (l_afterdeed : K.lookup f_afterdeed = some ⟨oc_afterdeed, od_afterdeed, .func (PySem.W.fnOf "after_deed" "after_deed" (defArgs s_afterdeed) (defBody s_afterdeed) (defScope s_afterdeed) .none kV_afterdeed dc_afterdeed pm_afterdeed an_afterdeed cd_afterdeed ct_afterdeed), sl_afterdeed⟩) (c_f_afterdeed : PySem.W.codeIn K cd_afterdeed "after_deed" = true) (k_afterdeed : PySem.W.keepIn K (.ref f_afterdeed) = true)
    (a_store : PySem.W.nsIn K mainGlobals "_law_store" = some (some (.ref f_store))) (l_store : K.lookup f_store = some ⟨oc_store, od_store, .func (PySem.W.fnOf "_law_store" "_law_store" (defArgs s_store) (defBody s_store) (defScope s_store) .none kV_store dc_store pm_store an_store cd_store ct_store), sl_store⟩) (c_f_store : PySem.W.codeIn K cd_store "_law_store" = true) (k_store : PySem.W.keepIn K (.ref f_store) = true)
    (a_mixed : PySem.W.nsIn K mainGlobals "_law_mixed" = some (some (.ref f_mixed))) (l_mixed : K.lookup f_mixed = some ⟨oc_mixed, od_mixed, .func (PySem.W.fnOf "_law_mixed" "_law_mixed" (defArgs s_mixed) (defBody s_mixed) (defScope s_mixed) .none kV_mixed dc_mixed pm_mixed an_mixed cd_mixed ct_mixed), sl_mixed⟩) (c_f_mixed : PySem.W.codeIn K cd_mixed "_law_mixed" = true) (k_mixed : PySem.W.keepIn K (.ref f_mixed) = true)
    (a_take : PySem.W.nsIn K mainGlobals "_law_take" = some (some (.ref f_take))) (l_take : K.lookup f_take = some ⟨oc_take, od_take, .func (PySem.W.fnOf "_law_take" "_law_take" (defArgs s_take) (defBody s_take) (defScope s_take) .none kV_take dc_take pm_take an_take cd_take ct_take), sl_take⟩) (c_f_take : PySem.W.codeIn K cd_take "_law_take" = true) (k_take : PySem.W.keepIn K (.ref f_take) = true)
    (a_pick : PySem.W.nsIn K mainGlobals "_law_pick" = some (some (.ref f_pick))) (l_pick : K.lookup f_pick = some ⟨oc_pick, od_pick, .func (PySem.W.fnOf "_law_pick" "_law_pick" (defArgs s_pick) (defBody s_pick) (defScope s_pick) .none kV_pick dc_pick pm_pick an_pick cd_pick ct_pick), sl_pick⟩) (c_f_pick : PySem.W.codeIn K cd_pick "_law_pick" = true) (k_pick : PySem.W.keepIn K (.ref f_pick) = true)
    (a_chance : PySem.W.nsIn K mainGlobals "_law_chance" = some (some (.ref f_chance))) (l_chance : K.lookup f_chance = some ⟨oc_chance, od_chance, .func (PySem.W.fnOf "_law_chance" "_law_chance" (defArgs s_chance) (defBody s_chance) (defScope s_chance) .none kV_chance dc_chance pm_chance an_chance cd_chance ct_chance), sl_chance⟩) (c_f_chance : PySem.W.codeIn K cd_chance "_law_chance" = true) (k_chance : PySem.W.keepIn K (.ref f_chance) = true)
    (a_number : PySem.W.nsIn K mainGlobals "_law_number" = some (some (.ref f_number))) (l_number : K.lookup f_number = some ⟨oc_number, od_number, .func (PySem.W.fnOf "_law_number" "_law_number" (defArgs s_number) (defBody s_number) (defScope s_number) .none kV_number dc_number pm_number an_number cd_number ct_number), sl_number⟩) (c_f_number : PySem.W.codeIn K cd_number "_law_number" = true) (k_number : PySem.W.keepIn K (.ref f_number) = true)
    (a_badnumber : PySem.W.nsIn K mainGlobals "_law_bad_number" = some (some (.ref f_badnumber))) (l_badnumber : K.lookup f_badnumber = some ⟨oc_badnumber, od_badnumber, .func (PySem.W.fnOf "_law_bad_number" "_law_bad_number" (defArgs s_badnumber) (defBody s_badnumber) (defScope s_badnumber) .none kV_badnumber dc_badnumber pm_badnumber an_badnumber cd_badnumber ct_badnumber), sl_badnumber⟩) (c_f_badnumber : PySem.W.codeIn K cd_badnumber "_law_bad_number" = true) (k_badnumber : PySem.W.keepIn K (.ref f_badnumber) = true)
    (a_same : PySem.W.nsIn K mainGlobals "_law_same" = some (some (.ref f_same))) (l_same : K.lookup f_same = some ⟨oc_same, od_same, .func (PySem.W.fnOf "_law_same" "_law_same" (defArgs s_same) (defBody s_same) (defScope s_same) .none kV_same dc_same pm_same an_same cd_same ct_same), sl_same⟩) (c_f_same : PySem.W.codeIn K cd_same "_law_same" = true) (k_same : PySem.W.keepIn K (.ref f_same) = true)
    (a_samerows : PySem.W.nsIn K mainGlobals "_law_same_rows" = some (some (.ref f_samerows))) (l_samerows : K.lookup f_samerows = some ⟨oc_samerows, od_samerows, .func (PySem.W.fnOf "_law_same_rows" "_law_same_rows" (defArgs s_samerows) (defBody s_samerows) (defScope s_samerows) .none kV_samerows dc_samerows pm_samerows an_samerows cd_samerows ct_samerows), sl_samerows⟩) (c_f_samerows : PySem.W.codeIn K cd_samerows "_law_same_rows" = true) (k_samerows : PySem.W.keepIn K (.ref f_samerows) = true)
    (a_race : PySem.W.nsIn K mainGlobals "_law_race" = some (some (.ref f_race))) (l_race : K.lookup f_race = some ⟨oc_race, od_race, .func (PySem.W.fnOf "_law_race" "_law_race" (defArgs s_race) (defBody s_race) (defScope s_race) .none kV_race dc_race pm_race an_race cd_race ct_race), sl_race⟩) (c_f_race : PySem.W.codeIn K cd_race "_law_race" = true) (k_race : PySem.W.keepIn K (.ref f_race) = true)
    (a_badrace : PySem.W.nsIn K mainGlobals "_law_bad_race" = some (some (.ref f_badrace))) (l_badrace : K.lookup f_badrace = some ⟨oc_badrace, od_badrace, .func (PySem.W.fnOf "_law_bad_race" "_law_bad_race" (defArgs s_badrace) (defBody s_badrace) (defScope s_badrace) .none kV_badrace dc_badrace pm_badrace an_badrace cd_badrace ct_badrace), sl_badrace⟩) (c_f_badrace : PySem.W.codeIn K cd_badrace "_law_bad_race" = true) (k_badrace : PySem.W.keepIn K (.ref f_badrace) = true)
    (a_Lisnumber : PySem.W.nsIn K mainGlobals "_law_is_number" = some (some (.ref f_Lisnumber))) (l_Lisnumber : K.lookup f_Lisnumber = some ⟨oc_Lisnumber, od_Lisnumber, .func (PySem.W.fnOf "_law_is_number" "_law_is_number" (defArgs s_Lisnumber) (defBody s_Lisnumber) (defScope s_Lisnumber) .none kV_Lisnumber dc_Lisnumber pm_Lisnumber an_Lisnumber cd_Lisnumber ct_Lisnumber), sl_Lisnumber⟩) (c_f_Lisnumber : PySem.W.codeIn K cd_Lisnumber "_law_is_number" = true) (k_Lisnumber : PySem.W.keepIn K (.ref f_Lisnumber) = true)
    (a_racedue : PySem.W.nsIn K mainGlobals "_law_race_due" = some (some (.ref f_racedue))) (l_racedue : K.lookup f_racedue = some ⟨oc_racedue, od_racedue, .func (PySem.W.fnOf "_law_race_due" "_law_race_due" (defArgs s_racedue) (defBody s_racedue) (defScope s_racedue) .none kV_racedue dc_racedue pm_racedue an_racedue cd_racedue ct_racedue), sl_racedue⟩) (c_f_racedue : PySem.W.codeIn K cd_racedue "_law_race_due" = true) (k_racedue : PySem.W.keepIn K (.ref f_racedue) = true)
    (a_Lracevalue : PySem.W.nsIn K mainGlobals "_law_race_value" = some (some (.ref f_Lracevalue))) (l_Lracevalue : K.lookup f_Lracevalue = some ⟨oc_Lracevalue, od_Lracevalue, .func (PySem.W.fnOf "_law_race_value" "_law_race_value" (defArgs s_Lracevalue) (defBody s_Lracevalue) (defScope s_Lracevalue) .none kV_Lracevalue dc_Lracevalue pm_Lracevalue an_Lracevalue cd_Lracevalue ct_Lracevalue), sl_Lracevalue⟩) (c_f_Lracevalue : PySem.W.codeIn K cd_Lracevalue "_law_race_value" = true) (k_Lracevalue : PySem.W.keepIn K (.ref f_Lracevalue) = true)
    (a_Lraceafter : PySem.W.nsIn K mainGlobals "_law_race_after" = some (some (.ref f_Lraceafter))) (l_Lraceafter : K.lookup f_Lraceafter = some ⟨oc_Lraceafter, od_Lraceafter, .func (PySem.W.fnOf "_law_race_after" "_law_race_after" (defArgs s_Lraceafter) (defBody s_Lraceafter) (defScope s_Lraceafter) .none kV_Lraceafter dc_Lraceafter pm_Lraceafter an_Lraceafter cd_Lraceafter ct_Lraceafter), sl_Lraceafter⟩) (c_f_Lraceafter : PySem.W.codeIn K cd_Lraceafter "_law_race_after" = true) (k_Lraceafter : PySem.W.keepIn K (.ref f_Lraceafter) = true)
    (a_Lracebest : PySem.W.nsIn K mainGlobals "_law_race_best" = some (some (.ref f_Lracebest))) (l_Lracebest : K.lookup f_Lracebest = some ⟨oc_Lracebest, od_Lracebest, .func (PySem.W.fnOf "_law_race_best" "_law_race_best" (defArgs s_Lracebest) (defBody s_Lracebest) (defScope s_Lracebest) .none kV_Lracebest dc_Lracebest pm_Lracebest an_Lracebest cd_Lracebest ct_Lracebest), sl_Lracebest⟩) (c_f_Lracebest : PySem.W.codeIn K cd_Lracebest "_law_race_best" = true) (k_Lracebest : PySem.W.keepIn K (.ref f_Lracebest) = true)
    (a_lineasked : PySem.W.nsIn K mainGlobals "_law_line_asked" = some (some (.ref f_lineasked))) (l_lineasked : K.lookup f_lineasked = some ⟨oc_lineasked, od_lineasked, .func (PySem.W.fnOf "_law_line_asked" "_law_line_asked" (defArgs s_lineasked) (defBody s_lineasked) (defScope s_lineasked) .none kV_lineasked dc_lineasked pm_lineasked an_lineasked cd_lineasked ct_lineasked), sl_lineasked⟩) (c_f_lineasked : PySem.W.codeIn K cd_lineasked "_law_line_asked" = true) (k_lineasked : PySem.W.keepIn K (.ref f_lineasked) = true)
    (a_walkof : PySem.W.nsIn K mainGlobals "_law_walk_of" = some (some (.ref f_walkof))) (l_walkof : K.lookup f_walkof = some ⟨oc_walkof, od_walkof, .func (PySem.W.fnOf "_law_walk_of" "_law_walk_of" (defArgs s_walkof) (defBody s_walkof) (defScope s_walkof) .none kV_walkof dc_walkof pm_walkof an_walkof cd_walkof ct_walkof), sl_walkof⟩) (c_f_walkof : PySem.W.codeIn K cd_walkof "_law_walk_of" = true) (k_walkof : PySem.W.keepIn K (.ref f_walkof) = true)
    (a_walkagrees : PySem.W.nsIn K mainGlobals "_law_walk_agrees" = some (some (.ref f_walkagrees))) (l_walkagrees : K.lookup f_walkagrees = some ⟨oc_walkagrees, od_walkagrees, .func (PySem.W.fnOf "_law_walk_agrees" "_law_walk_agrees" (defArgs s_walkagrees) (defBody s_walkagrees) (defScope s_walkagrees) .none kV_walkagrees dc_walkagrees pm_walkagrees an_walkagrees cd_walkagrees ct_walkagrees), sl_walkagrees⟩) (c_f_walkagrees : PySem.W.codeIn K cd_walkagrees "_law_walk_agrees" = true) (k_walkagrees : PySem.W.keepIn K (.ref f_walkagrees) = true)
    (a_law : PySem.W.nsIn K mainGlobals "law" = some (some (.ref f_law))) (l_law : K.lookup f_law = some ⟨oc_law, od_law, .func (PySem.W.fnOf "law" "law" (defArgs s_law) (defBody s_law) (defScope s_law) .none kV_law dc_law pm_law an_law cd_law ct_law), sl_law⟩) (c_f_law : PySem.W.codeIn K cd_law "law" = true) (k_law : PySem.W.keepIn K (.ref f_law) = true)
    (e_BadNumber : PySem.W.nsIn K mainGlobals "BadNumber" = some (some (.ref c_BadNumber)))
    (e_TworoomsError : PySem.W.nsIn K mainGlobals "TworoomsError" = some (some (.ref c_TworoomsError)))
    (e_NoEntry : PySem.W.nsIn K mainGlobals "NoEntry" = some (some (.ref c_NoEntry)))
    (e_TooMany : PySem.W.nsIn K mainGlobals "TooMany" = some (some (.ref c_TooMany)))
    (e_BadName : PySem.W.nsIn K mainGlobals "BadName" = some (some (.ref c_BadName)))
    (kit_BadNumber_TworoomsError : PySem.W.kitOne K (.ref c_BadNumber) (.ref c_TworoomsError) = some true)
    (kit_BadNumber_NoEntry : PySem.W.kitOne K (.ref c_BadNumber) (.ref c_NoEntry) = some false)
    (kit_BadNumber_TooMany : PySem.W.kitOne K (.ref c_BadNumber) (.ref c_TooMany) = some false)
    (kit_BadNumber_BadName : PySem.W.kitOne K (.ref c_BadNumber) (.ref c_BadName) = some false)
    (kit_BadNumber_ValueError : PySem.W.kitOne K (.ref c_BadNumber) (.type "ValueError") = some true)
    (xL_BadNumber : K.lookup c_BadNumber = some (excClassObj nm_BadNumber q_BadNumber c_BadNumber N_BadNumber bs_BadNumber bm_BadNumber true sn_BadNumber sub_BadNumber ab_BadNumber col_BadNumber dd_BadNumber m0_BadNumber m1_BadNumber m2_BadNumber m3_BadNumber m5_BadNumber "ValueError.__new__")) (rv_BadNumber : PySem.HandSPX.refsVE bm_BadNumber = true)
    (sa_BadNumber : PySem.W.findIn K (.ref c_BadNumber) "__setattr__" = some (some (.builtin "object.__setattr__")))
    (ex_BadNumber : PySem.W.subIn K (.ref c_BadNumber) (.type "BaseException") = some true)
    (ty_BadNumber : PySem.W.typeIn K (.ref c_BadNumber) = some (.type "type"))
    (kC_BadNumber : PySem.W.keepIn K (.ref c_BadNumber) = true)
    (ini_BadNumber : PySem.W.findIn K (.ref c_BadNumber) "__init__" = some (some (.ref fI_BadNumber)))
    (tf_BadNumber : PySem.W.typeIn K (.ref fI_BadNumber) = some (.type "function"))
    (ga_BadNumber : PySem.W.findIn K (.ref c_BadNumber) "__getattribute__" = some (some (.builtin "BaseException.__getattribute__")))
    (gg_BadNumber : PySem.W.findIn K (.ref c_BadNumber) "__getattr__" = some none)
    (hd_BadNumber : PySem.W.hasDictIn K c_BadNumber = true)
    (ha_BadNumber : PySem.W.findIn K (.ref c_BadNumber) "__class__" = some (some (.builtin "object.__class__")))
    (hn_BadNumber : PySem.W.specialIn K (.builtin "object.__class__") "__get__" = some (some (.builtin "getset_descriptor.__get__")))
    (ht_BadNumber : PySem.W.takesIn K (.builtin "object.__class__") = some true)
    (hm_BadNumber : PySem.W.mroIn K c_BadNumber (.type "object") = some true)
    (me_BadNumber : PySem.W.exmOne K (.ref c_BadNumber) (.ref c_BadNumber) = some true)
    (lI_BadNumber : K.lookup fI_BadNumber = some ⟨ocI_BadNumber, odI_BadNumber, .func (PySem.W.fnOf "__init__" "BadNumber.__init__" (defArgs s_iBadNumber) (defBody s_iBadNumber) (defScope s_iBadNumber) .none kVI_BadNumber dcI_BadNumber pmI_BadNumber anI_BadNumber cdI_BadNumber ctI_BadNumber), slI_BadNumber⟩)
    (cI_BadNumber : PySem.W.codeIn K cdI_BadNumber "BadNumber.__init__" = true)
    (kI_BadNumber : PySem.W.keepIn K (.ref fI_BadNumber) = true)
    (no_BadNumber_what : PySem.W.findIn K (.ref c_BadNumber) "what" = some none)
    (no_BadNumber_value : PySem.W.findIn K (.ref c_BadNumber) "value" = some none)
    (g_MOST_FREE_PLACES : PySem.W.nsIn K mainGlobals "MOST_FREE_PLACES" = some (some (.int 1000000 t_MOST_FREE_PLACES)))
    (g_MOST_IN_LINE : PySem.W.nsIn K mainGlobals "MOST_IN_LINE" = some (some (.int 30 t_MOST_IN_LINE)))
    (g_FILL : PySem.W.nsIn K mainGlobals "FILL" = some (some (.str (Str.ofString "fill") t_FILL)))
    (g_SHARE : PySem.W.nsIn K mainGlobals "SHARE" = some (some (.str (Str.ofString "share") t_SHARE)))
    (g_OWN : PySem.W.nsIn K mainGlobals "OWN" = some (some (.str (Str.ofString "own") t_OWN)))
    (g_PASS_DEED : PySem.W.nsIn K mainGlobals "PASS_DEED" = some (some (.str (Str.ofString "pass") t_PASS_DEED)))
    (g_WINS : PySem.W.nsIn K mainGlobals "WINS" = some (some (.str (Str.ofString "wins") t_WINS)))
    (g_LOSES : PySem.W.nsIn K mainGlobals "LOSES" = some (some (.str (Str.ofString "loses") t_LOSES)))
    (g_PEACE : PySem.W.nsIn K mainGlobals "PEACE" = some (some (.str (Str.ofString "peace") t_PEACE)))
    (z_len : PySem.W.nsIn K mainGlobals "len" = some none) (z_range : PySem.W.nsIn K mainGlobals "range" = some none) (z_abs : PySem.W.nsIn K mainGlobals "abs" = some none) (z_ord : PySem.W.nsIn K mainGlobals "ord" = some none) (z_min : PySem.W.nsIn K mainGlobals "min" = some none) (z_max : PySem.W.nsIn K mainGlobals "max" = some none) (z_all : PySem.W.nsIn K mainGlobals "all" = some none) (z_isinstance : PySem.W.nsIn K mainGlobals "isinstance" = some none) (z_int_ : PySem.W.nsIn K mainGlobals "int" = some none) (z_str_ : PySem.W.nsIn K mainGlobals "str" = some none) (z_bool_ : PySem.W.nsIn K mainGlobals "bool" = some none) (z_list_ : PySem.W.nsIn K mainGlobals "list" = some none) (z_tuple_ : PySem.W.nsIn K mainGlobals "tuple" = some none) (z_dict_ : PySem.W.nsIn K mainGlobals "dict" = some none) (z_VE : PySem.W.nsIn K mainGlobals "ValueError" = some none) :
    ∃ fd : FuncData, (∀ (s : Shared) (v : Value), BindsTo s fd ⟨[v], []⟩ [("script", v)]) ∧ ∀ base : Heap, K.In base → base.Ns mainGlobals mg → FnOk l.prog w K mg base CX0 10 fa fd ["script"] (spLaw K) := by
  have e := hfa.symm.trans (PySem.W.mg_of X G a_law)
  cases e
  have B : Bi mg := ⟨PySem.W.mg_none_of X G z_len, PySem.W.mg_none_of X G z_range, PySem.W.mg_none_of X G z_abs, PySem.W.mg_none_of X G z_ord, PySem.W.mg_none_of X G z_min, PySem.W.mg_none_of X G z_max, PySem.W.mg_none_of X G z_all, PySem.W.mg_none_of X G z_isinstance, PySem.W.mg_none_of X G z_int_, PySem.W.mg_none_of X G z_str_, PySem.W.mg_none_of X G z_bool_, PySem.W.mg_none_of X G z_list_, PySem.W.mg_none_of X G z_tuple_, PySem.W.mg_none_of X G z_dict_⟩
  have F_isnumber := fun_mk (st := s_isnumber) l_isnumber c_f_isnumber k_isnumber
  have D_isnumber : Dn K mg "is_number" s_isnumber ["value"] f_isnumber _ := ⟨F_isnumber, PySem.W.mg_of X G a_isnumber, F_isnumber.binds (ps := ["value"]) fun _ _ _ _ _ _ us hl => match us, hl with | [_], _ => rfl⟩
  have F_checknumber := fun_mk (st := s_checknumber) l_checknumber c_f_checknumber k_checknumber
  have D_checknumber : Dn K mg "check_number" s_checknumber ["what", "value", "least", "most"] f_checknumber _ := ⟨F_checknumber, PySem.W.mg_of X G a_checknumber, F_checknumber.binds (ps := ["what", "value", "least", "most"]) fun _ _ _ _ _ _ us hl => match us, hl with | [_, _, _, _], _ => rfl⟩
  have F_racevalue := fun_mk (st := s_racevalue) l_racevalue c_f_racevalue k_racevalue
  have F_racebest := fun_mk (st := s_racebest) l_racebest c_f_racebest k_racebest
  have F_raceline := fun_mk (st := s_raceline) l_raceline c_f_raceline k_raceline
  have D_raceline : Dn K mg "race_line" s_raceline ["own", "other", "shared"] f_raceline _ := ⟨F_raceline, PySem.W.mg_of X G a_raceline, F_raceline.binds (ps := ["own", "other", "shared"]) fun _ _ _ _ _ _ us hl => match us, hl with | [_, _, _], _ => rfl⟩
  have F_checkbounds := fun_mk (st := s_checkbounds) l_checkbounds c_f_checkbounds k_checkbounds
  have D_checkbounds : Dn K mg "check_bounds" s_checkbounds ["own", "other", "shared", "most"] f_checkbounds _ := ⟨F_checkbounds, PySem.W.mg_of X G a_checkbounds, F_checkbounds.binds (ps := ["own", "other", "shared", "most"]) fun _ _ _ _ _ _ us hl => match us, hl with | [_, _, _, _], _ => rfl⟩
  have F_checkrace := fun_mk (st := s_checkrace) l_checkrace c_f_checkrace k_checkrace
  have D_checkrace : Dn K mg "check_race" s_checkrace ["own", "other", "shared", "most"] f_checkrace _ := ⟨F_checkrace, PySem.W.mg_of X G a_checkrace, F_checkrace.binds (ps := ["own", "other", "shared", "most"]) fun _ _ _ _ _ _ us hl => match us, hl with | [_, _, _, _], _ => rfl⟩
  have F_valuebyrule := fun_mk (st := s_valuebyrule) l_valuebyrule c_f_valuebyrule k_valuebyrule
  have D_valuebyrule : Dn K mg "value_by_rule" s_valuebyrule ["own", "other", "shared", "after_pass"] f_valuebyrule _ := ⟨F_valuebyrule, PySem.W.mg_of X G a_valuebyrule, F_valuebyrule.binds (ps := ["own", "other", "shared", "after_pass"]) fun _ _ _ _ _ _ us hl => match us, hl with | [_, _, _, _], _ => rfl⟩
  have F_bestdeed := fun_mk (st := s_bestdeed) l_bestdeed c_f_bestdeed k_bestdeed
  have D_bestdeed : Dn K mg "best_deed" s_bestdeed ["own", "other", "shared", "after_pass"] f_bestdeed _ := ⟨F_bestdeed, PySem.W.mg_of X G a_bestdeed, F_bestdeed.binds (ps := ["own", "other", "shared", "after_pass"]) fun _ _ _ _ _ _ us hl => match us, hl with | [_, _, _, _], _ => rfl⟩
  have F_afterdeed := fun_mk (st := s_afterdeed) l_afterdeed c_f_afterdeed k_afterdeed
  have D_afterdeed : Dn K mg "after_deed" s_afterdeed ["own", "other", "shared", "deed"] f_afterdeed _ := ⟨F_afterdeed, PySem.W.mg_of X G a_afterdeed, F_afterdeed.binds (ps := ["own", "other", "shared", "deed"]) fun _ _ _ _ _ _ us hl => match us, hl with | [_, _, _, _], _ => rfl⟩
  have F_store := fun_mk (st := s_store) l_store c_f_store k_store
  have D_store : Dn K mg "_law_store" s_store ["script"] f_store _ := ⟨F_store, PySem.W.mg_of X G a_store, F_store.binds (ps := ["script"]) fun _ _ _ _ _ _ us hl => match us, hl with | [_], _ => rfl⟩
  have F_mixed := fun_mk (st := s_mixed) l_mixed c_f_mixed k_mixed
  have D_mixed : Dn K mg "_law_mixed" s_mixed ["number", "turn", "many"] f_mixed _ := ⟨F_mixed, PySem.W.mg_of X G a_mixed, F_mixed.binds (ps := ["number", "turn", "many"]) fun _ _ _ _ _ _ us hl => match us, hl with | [_, _, _], _ => rfl⟩
  have F_take := fun_mk (st := s_take) l_take c_f_take k_take
  have D_take : Dn K mg "_law_take" s_take ["store", "many"] f_take _ := ⟨F_take, PySem.W.mg_of X G a_take, F_take.binds (ps := ["store", "many"]) fun _ _ _ _ _ _ us hl => match us, hl with | [_, _], _ => rfl⟩
  have F_pick := fun_mk (st := s_pick) l_pick c_f_pick k_pick
  have D_pick : Dn K mg "_law_pick" s_pick ["store", "row"] f_pick _ := ⟨F_pick, PySem.W.mg_of X G a_pick, F_pick.binds (ps := ["store", "row"]) fun _ _ _ _ _ _ us hl => match us, hl with | [_, _], _ => rfl⟩
  have F_chance := fun_mk (st := s_chance) l_chance c_f_chance k_chance
  have D_chance : Dn K mg "_law_chance" s_chance ["store", "many"] f_chance _ := ⟨F_chance, PySem.W.mg_of X G a_chance, F_chance.binds (ps := ["store", "many"]) fun _ _ _ _ _ _ us hl => match us, hl with | [_, _], _ => rfl⟩
  have F_number := fun_mk (st := s_number) l_number c_f_number k_number
  have D_number : Dn K mg "_law_number" s_number ["store", "low", "high"] f_number _ := ⟨F_number, PySem.W.mg_of X G a_number, F_number.binds (ps := ["store", "low", "high"]) fun _ _ _ _ _ _ us hl => match us, hl with | [_, _, _], _ => rfl⟩
  have F_badnumber := fun_mk (st := s_badnumber) l_badnumber c_f_badnumber k_badnumber
  have D_badnumber : Dn K mg "_law_bad_number" s_badnumber ["store", "low", "high"] f_badnumber _ := ⟨F_badnumber, PySem.W.mg_of X G a_badnumber, F_badnumber.binds (ps := ["store", "low", "high"]) fun _ _ _ _ _ _ us hl => match us, hl with | [_, _, _], _ => rfl⟩
  have F_same := fun_mk (st := s_same) l_same c_f_same k_same
  have D_same : Dn K mg "_law_same" s_same ["one", "two"] f_same _ := ⟨F_same, PySem.W.mg_of X G a_same, F_same.binds (ps := ["one", "two"]) fun _ _ _ _ _ _ us hl => match us, hl with | [_, _], _ => rfl⟩
  have F_samerows := fun_mk (st := s_samerows) l_samerows c_f_samerows k_samerows
  have D_samerows : Dn K mg "_law_same_rows" s_samerows ["one", "two"] f_samerows _ := ⟨F_samerows, PySem.W.mg_of X G a_samerows, F_samerows.binds (ps := ["one", "two"]) fun _ _ _ _ _ _ us hl => match us, hl with | [_, _], _ => rfl⟩
  have F_race := fun_mk (st := s_race) l_race c_f_race k_race
  have D_race : Dn K mg "_law_race" s_race ["store", "high"] f_race _ := ⟨F_race, PySem.W.mg_of X G a_race, F_race.binds (ps := ["store", "high"]) fun _ _ _ _ _ _ us hl => match us, hl with | [_, _], _ => rfl⟩
  have F_badrace := fun_mk (st := s_badrace) l_badrace c_f_badrace k_badrace
  have D_badrace : Dn K mg "_law_bad_race" s_badrace ["store", "high"] f_badrace _ := ⟨F_badrace, PySem.W.mg_of X G a_badrace, F_badrace.binds (ps := ["store", "high"]) fun _ _ _ _ _ _ us hl => match us, hl with | [_, _], _ => rfl⟩
  have F_Lisnumber := fun_mk (st := s_Lisnumber) l_Lisnumber c_f_Lisnumber k_Lisnumber
  have D_Lisnumber : Dn K mg "_law_is_number" s_Lisnumber ["thing", "low", "high"] f_Lisnumber _ := ⟨F_Lisnumber, PySem.W.mg_of X G a_Lisnumber, F_Lisnumber.binds (ps := ["thing", "low", "high"]) fun _ _ _ _ _ _ us hl => match us, hl with | [_, _, _], _ => rfl⟩
  have F_racedue := fun_mk (st := s_racedue) l_racedue c_f_racedue k_racedue
  have D_racedue : Dn K mg "_law_race_due" s_racedue ["own", "other", "shared", "high"] f_racedue _ := ⟨F_racedue, PySem.W.mg_of X G a_racedue, F_racedue.binds (ps := ["own", "other", "shared", "high"]) fun _ _ _ _ _ _ us hl => match us, hl with | [_, _, _, _], _ => rfl⟩
  have F_Lracevalue := fun_mk (st := s_Lracevalue) l_Lracevalue c_f_Lracevalue k_Lracevalue
  have D_Lracevalue : Dn K mg "_law_race_value" s_Lracevalue ["own", "other", "shared", "passed"] f_Lracevalue _ := ⟨F_Lracevalue, PySem.W.mg_of X G a_Lracevalue, F_Lracevalue.binds (ps := ["own", "other", "shared", "passed"]) fun _ _ _ _ _ _ us hl => match us, hl with | [_, _, _, _], _ => rfl⟩
  have F_Lraceafter := fun_mk (st := s_Lraceafter) l_Lraceafter c_f_Lraceafter k_Lraceafter
  have D_Lraceafter : Dn K mg "_law_race_after" s_Lraceafter ["own", "other", "shared", "deed"] f_Lraceafter _ := ⟨F_Lraceafter, PySem.W.mg_of X G a_Lraceafter, F_Lraceafter.binds (ps := ["own", "other", "shared", "deed"]) fun _ _ _ _ _ _ us hl => match us, hl with | [_, _, _, _], _ => rfl⟩
  have F_Lracebest := fun_mk (st := s_Lracebest) l_Lracebest c_f_Lracebest k_Lracebest
  have D_Lracebest : Dn K mg "_law_race_best" s_Lracebest ["own", "other", "shared", "passed"] f_Lracebest _ := ⟨F_Lracebest, PySem.W.mg_of X G a_Lracebest, F_Lracebest.binds (ps := ["own", "other", "shared", "passed"]) fun _ _ _ _ _ _ us hl => match us, hl with | [_, _, _, _], _ => rfl⟩
  have F_lineasked := fun_mk (st := s_lineasked) l_lineasked c_f_lineasked k_lineasked
  have D_lineasked : Dn K mg "_law_line_asked" s_lineasked ["row"] f_lineasked _ := ⟨F_lineasked, PySem.W.mg_of X G a_lineasked, F_lineasked.binds (ps := ["row"]) fun _ _ _ _ _ _ us hl => match us, hl with | [_], _ => rfl⟩
  have F_walkof := fun_mk (st := s_walkof) l_walkof c_f_walkof k_walkof
  have D_walkof : Dn K mg "_law_walk_of" s_walkof ["row", "many"] f_walkof _ := ⟨F_walkof, PySem.W.mg_of X G a_walkof, F_walkof.binds (ps := ["row", "many"]) fun _ _ _ _ _ _ us hl => match us, hl with | [_, _], _ => rfl⟩
  have F_walkagrees := fun_mk (st := s_walkagrees) l_walkagrees c_f_walkagrees k_walkagrees
  have D_walkagrees : Dn K mg "_law_walk_agrees" s_walkagrees ["walk"] f_walkagrees _ := ⟨F_walkagrees, PySem.W.mg_of X G a_walkagrees, F_walkagrees.binds (ps := ["walk"]) fun _ _ _ _ _ _ us hl => match us, hl with | [_], _ => rfl⟩
  have F_law := fun_mk (st := s_law) l_law c_f_law k_law
  have D_law : Dn K mg "law" s_law ["script"] _ _ := ⟨F_law, PySem.W.mg_of X G a_law, F_law.binds (ps := ["script"]) fun _ _ _ _ _ _ us hl => match us, hl with | [_], _ => rfl⟩
  have FI_BadNumber := fun_mk (st := s_iBadNumber) lI_BadNumber cI_BadNumber kI_BadNumber
  have oex_BadNumber : OexC K c_BadNumber := ⟨⟨_, _, _, _, _, _, _, _, _, _, _, _, _, _, _, xL_BadNumber, rv_BadNumber⟩, sa_BadNumber, ex_BadNumber, ty_BadNumber, kC_BadNumber⟩
  have X_BadNumber : Exn K mg "BadNumber" c_BadNumber fI_BadNumber := ⟨oex_BadNumber, PySem.W.mg_of X G e_BadNumber, ini_BadNumber, tf_BadNumber⟩
  have XF_BadNumber : XfC K c_BadNumber := ⟨ga_BadNumber, gg_BadNumber, ex_BadNumber, hd_BadNumber⟩
  have XC_BadNumber : ExcC K c_BadNumber := ⟨ga_BadNumber, gg_BadNumber, ex_BadNumber, hd_BadNumber, ha_BadNumber, hn_BadNumber, ht_BadNumber, hm_BadNumber⟩
  have BI_BadNumber := FI_BadNumber.binds (ps := ["self", "what", "value"]) fun _ _ _ _ _ _ us hl => match us, hl with | [_, _, _], _ => rfl
  refine ⟨PySem.W.fnOf "law" "law" (defArgs s_law) (defBody s_law) (defScope s_law) .none kV_law dc_law pm_law an_law cd_law ct_law, fun s v => .of_eq rfl, fun base _ _ => ?_⟩
  have GI_BadNumber := ok_iBadNumber (P := l.prog) (w := w) (mg := mg) (base := base) oex_BadNumber no_BadNumber_what no_BadNumber_value FI_BadNumber
  obtain ⟨ds_racevalue, VD_racevalue, BD_racevalue⟩ := bd31 (v := .bl false) (ps := ["own", "other", "shared", "after_pass"]) l_racevalue c_f_racevalue k_racevalue kw_racevalue rfl rfl (fun _ _ _ _ _ _ _ _ _ _ => ⟨_, _, _, _, _, _, rfl, rfl, rfl⟩)
  have KB_racevalue : KBinds K _ ["own", "other", "shared", "after_pass"] ["after_pass"] kw31 kw31 := kb31 (fd := PySem.W.fnOf "race_value" "race_value" (defArgs s_racevalue) (defBody s_racevalue) (defScope s_racevalue) .none (.ref aK_racevalue) dc_racevalue pm_racevalue an_racevalue cd_racevalue ct_racevalue) (fun _ _ _ _ => rfl) rfl
  have D_racevalue := (⟨F_racevalue, PySem.W.mg_of X G a_racevalue⟩ : Dk K mg "race_value" s_racevalue f_racevalue _)
  obtain ⟨ds_racebest, VD_racebest, BD_racebest⟩ := bd31 (v := .bl false) (ps := ["own", "other", "shared", "after_pass"]) l_racebest c_f_racebest k_racebest kw_racebest rfl rfl (fun _ _ _ _ _ _ _ _ _ _ => ⟨_, _, _, _, _, _, rfl, rfl, rfl⟩)
  have KB_racebest : KBinds K _ ["own", "other", "shared", "after_pass"] ["after_pass"] kw31 kw31 := kb31 (fd := PySem.W.fnOf "race_best" "race_best" (defArgs s_racebest) (defBody s_racebest) (defScope s_racebest) .none (.ref aK_racebest) dc_racebest pm_racebest an_racebest cd_racebest ct_racebest) (fun _ _ _ _ => rfl) rfl
  have D_racebest := (⟨F_racebest, PySem.W.mg_of X G a_racebest⟩ : Dk K mg "race_best" s_racebest f_racebest _)
  have G_take := ok_take (P := l.prog) (w := w) (base := base) B D_take D_mixed
  have G_pickL := ok_pickL (P := l.prog) (w := w) (base := base) B D_pick D_take G_take
  have G_chance := ok_chance (P := l.prog) (w := w) (base := base) B D_chance D_take G_take
  have G_number := ok_number (P := l.prog) (w := w) (base := base) B D_number D_take D_chance G_take G_chance
  have G_isn := ok_isnumber (P := l.prog) (w := w) (base := base) B D_isnumber
  have G_cn := ok_checknumber (P := l.prog) (w := w) (base := base) X_BadNumber BI_BadNumber GI_BadNumber D_checknumber D_isnumber G_isn
  have G_cb := ok_checkbounds (P := l.prog) (w := w) (base := base) D_checkbounds D_checknumber G_cn
  have G_cr := ok_checkrace (P := l.prog) (w := w) (base := base) X_BadNumber BI_BadNumber GI_BadNumber D_checkrace D_checkbounds G_cb
  have G_vr := ok_valuebyrule (P := l.prog) (w := w) (base := base) B D_valuebyrule (PySem.W.mg_of X G g_WINS) (PySem.W.mg_of X G g_LOSES) (PySem.W.mg_of X G g_PEACE)
  have G_rv := ok_racevalue (P := l.prog) (w := w) (base := base) D_racevalue D_checkrace D_valuebyrule (PySem.W.mg_of X G g_MOST_FREE_PLACES) G_cr G_vr
  have G_bd := ok_bestdeed (P := l.prog) (w := w) (base := base) D_bestdeed D_valuebyrule (PySem.W.mg_of X G g_WINS) (PySem.W.mg_of X G g_FILL) (PySem.W.mg_of X G g_SHARE) (PySem.W.mg_of X G g_PASS_DEED) G_vr
  have G_rb := ok_racebest (P := l.prog) (w := w) (base := base) D_racebest D_checkrace D_bestdeed (PySem.W.mg_of X G g_MOST_FREE_PLACES) G_cr G_bd
  have G_ad := ok_afterdeed (P := l.prog) (w := w) (base := base) D_afterdeed (PySem.W.mg_of X G g_FILL) (PySem.W.mg_of X G g_SHARE) (PySem.W.mg_of X G g_OWN)
  have G_rl := ok_raceline (P := l.prog) (w := w) (base := base) D_raceline D_checkrace D_bestdeed D_afterdeed B (PySem.W.mg_of X G g_MOST_IN_LINE) (PySem.W.mg_of X G g_WINS) (PySem.W.mg_of X G g_LOSES) (PySem.W.mg_of X G g_PEACE) (PySem.W.mg_of X G g_PASS_DEED) G_cr G_bd G_ad
  have G_bad := ok_badnumber (P := l.prog) (w := w) (base := base) B D_badnumber D_take G_take
  have G_race := ok_race (P := l.prog) (w := w) (base := base) B D_race D_take D_pick D_chance D_number G_take G_pickL G_chance G_number
  have G_br := ok_badrace (P := l.prog) (w := w) (base := base) B D_badrace D_race D_take D_badnumber D_chance G_race G_take G_bad G_chance
  have G_Lisn := ok_Lisnumber (P := l.prog) (w := w) (base := base) B D_Lisnumber
  have G_rd := ok_racedue (P := l.prog) (w := w) (base := base) D_racedue D_Lisnumber G_Lisn
  have G_Lrv := ok_Lracevalue (P := l.prog) (w := w) (base := base) B D_Lracevalue
  have G_lb := ok_Lracebest (P := l.prog) (w := w) (base := base) D_Lracebest D_Lracevalue G_Lrv
  have G_la := ok_Lraceafter (P := l.prog) (w := w) (base := base) D_Lraceafter
  have G_lk := ok_lineasked (P := l.prog) (w := w) (base := base) B (PySem.W.mg_none_of X G z_VE) D_lineasked D_raceline X_BadNumber XF_BadNumber XC_BadNumber no_BadNumber_what no_BadNumber_value me_BadNumber (PySem.W.mg_of X G e_TworoomsError) (PySem.W.mg_of X G e_NoEntry) (PySem.W.mg_of X G e_TooMany) (PySem.W.mg_of X G e_BadName) kit_BadNumber_TworoomsError kit_BadNumber_NoEntry kit_BadNumber_TooMany kit_BadNumber_BadName kit_BadNumber_ValueError G_rl
  have G_same := same_all (P := l.prog) (w := w) (base := base) B D_same D_samerows 3
  have G_wo := ok_walkof (P := l.prog) (w := w) (base := base) B D_walkof D_Lracebest D_Lraceafter G_lb G_la
  have G_wa := ok_walkagrees (P := l.prog) (w := w) (base := base) B D_walkagrees D_racebest D_racevalue D_same KB_racebest KB_racevalue G_rb G_rv G_same
  have G_store := ok_store (P := l.prog) (w := w) (base := base) B D_store
  exact ok_law B D_law D_store D_race D_pick D_badrace D_walkof D_walkagrees D_raceline D_lineasked D_racedue D_same G_store G_race G_pickL G_br G_wo G_wa G_rl G_lk G_rd G_same
end K01
open PySem PySem.W PyProof.Rows
set_option maxRecDepth 100000 in
set_option maxHeartbeats 0 in
theorem PySem.Challenge.cw_tworooms_k77_line_ends_with_the_value_holds : PySem.Challenge.rw_tworooms_k77_line_ends_with_the_value.Holds := by
  w_on; o_law; k_head; (case hw => w_witness2)
  k_fill
  refine L2.walk_of (l := PySem.Challenge.rw_tworooms_k77_line_ends_with_the_value) (n := 63) (k := 10) (x := "script") (CX := fun _ => L2.CX0) (sp := fun w => K01.spLaw _) rfl (by decide) rfl ⟨rfl, by decide, by decide⟩ (fun w h Y => PySem.W.kIn_of Y) ?F (fun _ _ a ns hl _ hS => ⟨a, ns, rfl, hS, hl, fun _ => rfl⟩) (fun _ _ _ _ _ h => h)
  case F =>
    intro w mg fa h KX G hmg
    refine' K01.all_mk KX G hmg ?a_isnumber ?l_isnumber ?c_f_isnumber ?k_isnumber ?a_checknumber ?l_checknumber ?c_f_checknumber ?k_checknumber ?a_racevalue ?l_racevalue ?c_f_racevalue ?k_racevalue ?kw_racevalue ?a_racebest ?l_racebest ?c_f_racebest ?k_racebest ?kw_racebest ?a_raceline ?l_raceline ?c_f_raceline ?k_raceline ?a_checkbounds ?l_checkbounds ?c_f_checkbounds ?k_checkbounds ?a_checkrace ?l_checkrace ?c_f_checkrace ?k_checkrace ?a_valuebyrule ?l_valuebyrule ?c_f_valuebyrule ?k_valuebyrule ?a_bestdeed ?l_bestdeed ?c_f_bestdeed ?k_bestdeed ?a_afterdeed ?l_afterdeed ?c_f_afterdeed ?k_afterdeed ?a_store ?l_store ?c_f_store ?k_store ?a_mixed ?l_mixed ?c_f_mixed ?k_mixed ?a_take ?l_take ?c_f_take ?k_take ?a_pick ?l_pick ?c_f_pick ?k_pick ?a_chance ?l_chance ?c_f_chance ?k_chance ?a_number ?l_number ?c_f_number ?k_number ?a_badnumber ?l_badnumber ?c_f_badnumber ?k_badnumber ?a_same ?l_same ?c_f_same ?k_same ?a_samerows ?l_samerows ?c_f_samerows ?k_samerows ?a_race ?l_race ?c_f_race ?k_race ?a_badrace ?l_badrace ?c_f_badrace ?k_badrace ?a_Lisnumber ?l_Lisnumber ?c_f_Lisnumber ?k_Lisnumber ?a_racedue ?l_racedue ?c_f_racedue ?k_racedue ?a_Lracevalue ?l_Lracevalue ?c_f_Lracevalue ?k_Lracevalue ?a_Lraceafter ?l_Lraceafter ?c_f_Lraceafter ?k_Lraceafter ?a_Lracebest ?l_Lracebest ?c_f_Lracebest ?k_Lracebest ?a_lineasked ?l_lineasked ?c_f_lineasked ?k_lineasked ?a_walkof ?l_walkof ?c_f_walkof ?k_walkof ?a_walkagrees ?l_walkagrees ?c_f_walkagrees ?k_walkagrees ?a_law ?l_law ?c_f_law ?k_law ?e_BadNumber ?e_TworoomsError ?e_NoEntry ?e_TooMany ?e_BadName ?kit_BadNumber_TworoomsError ?kit_BadNumber_NoEntry ?kit_BadNumber_TooMany ?kit_BadNumber_BadName ?kit_BadNumber_ValueError ?xL_BadNumber ?rv_BadNumber ?sa_BadNumber ?ex_BadNumber ?ty_BadNumber ?kC_BadNumber ?ini_BadNumber ?tf_BadNumber ?ga_BadNumber ?gg_BadNumber ?hd_BadNumber ?ha_BadNumber ?hn_BadNumber ?ht_BadNumber ?hm_BadNumber ?me_BadNumber ?lI_BadNumber ?cI_BadNumber ?kI_BadNumber ?no_BadNumber_what ?no_BadNumber_value ?g_MOST_FREE_PLACES ?g_MOST_IN_LINE ?g_FILL ?g_SHARE ?g_OWN ?g_PASS_DEED ?g_WINS ?g_LOSES ?g_PEACE ?z_len ?z_range ?z_abs ?z_ord ?z_min ?z_max ?z_all ?z_isinstance ?z_int_ ?z_str_ ?z_bool_ ?z_list_ ?z_tuple_ ?z_dict_ ?z_VE
    (case a_isnumber => k_is)
    (case l_isnumber => k_is)
    (case c_f_isnumber => k_is)
    (case k_isnumber => k_is)
    (case a_checknumber => k_is)
    (case l_checknumber => k_is)
    (case c_f_checknumber => k_is)
    (case k_checknumber => k_is)
    (case a_racevalue => k_is)
    (case l_racevalue => k_is)
    (case c_f_racevalue => k_is)
    (case k_racevalue => k_is)
    (case kw_racevalue => k_is)
    (case a_racebest => k_is)
    (case l_racebest => k_is)
    (case c_f_racebest => k_is)
    (case k_racebest => k_is)
    (case kw_racebest => k_is)
    (case a_raceline => k_is)
    (case l_raceline => k_is)
    (case c_f_raceline => k_is)
    (case k_raceline => k_is)
    (case a_checkbounds => k_is)
    (case l_checkbounds => k_is)
    (case c_f_checkbounds => k_is)
    (case k_checkbounds => k_is)
    (case a_checkrace => k_is)
    (case l_checkrace => k_is)
    (case c_f_checkrace => k_is)
    (case k_checkrace => k_is)
    (case a_valuebyrule => k_is)
    (case l_valuebyrule => k_is)
    (case c_f_valuebyrule => k_is)
    (case k_valuebyrule => k_is)
    (case a_bestdeed => k_is)
    (case l_bestdeed => k_is)
    (case c_f_bestdeed => k_is)
    (case k_bestdeed => k_is)
    (case a_afterdeed => k_is)
    (case l_afterdeed => k_is)
    (case c_f_afterdeed => k_is)
    (case k_afterdeed => k_is)
    (case a_store => k_is)
    (case l_store => k_is)
    (case c_f_store => k_is)
    (case k_store => k_is)
    (case a_mixed => k_is)
    (case l_mixed => k_is)
    (case c_f_mixed => k_is)
    (case k_mixed => k_is)
    (case a_take => k_is)
    (case l_take => k_is)
    (case c_f_take => k_is)
    (case k_take => k_is)
    (case a_pick => k_is)
    (case l_pick => k_is)
    (case c_f_pick => k_is)
    (case k_pick => k_is)
    (case a_chance => k_is)
    (case l_chance => k_is)
    (case c_f_chance => k_is)
    (case k_chance => k_is)
    (case a_number => k_is)
    (case l_number => k_is)
    (case c_f_number => k_is)
    (case k_number => k_is)
    (case a_badnumber => k_is)
    (case l_badnumber => k_is)
    (case c_f_badnumber => k_is)
    (case k_badnumber => k_is)
    (case a_same => k_is)
    (case l_same => k_is)
    (case c_f_same => k_is)
    (case k_same => k_is)
    (case a_samerows => k_is)
    (case l_samerows => k_is)
    (case c_f_samerows => k_is)
    (case k_samerows => k_is)
    (case a_race => k_is)
    (case l_race => k_is)
    (case c_f_race => k_is)
    (case k_race => k_is)
    (case a_badrace => k_is)
    (case l_badrace => k_is)
    (case c_f_badrace => k_is)
    (case k_badrace => k_is)
    (case a_Lisnumber => k_is)
    (case l_Lisnumber => k_is)
    (case c_f_Lisnumber => k_is)
    (case k_Lisnumber => k_is)
    (case a_racedue => k_is)
    (case l_racedue => k_is)
    (case c_f_racedue => k_is)
    (case k_racedue => k_is)
    (case a_Lracevalue => k_is)
    (case l_Lracevalue => k_is)
    (case c_f_Lracevalue => k_is)
    (case k_Lracevalue => k_is)
    (case a_Lraceafter => k_is)
    (case l_Lraceafter => k_is)
    (case c_f_Lraceafter => k_is)
    (case k_Lraceafter => k_is)
    (case a_Lracebest => k_is)
    (case l_Lracebest => k_is)
    (case c_f_Lracebest => k_is)
    (case k_Lracebest => k_is)
    (case a_lineasked => k_is)
    (case l_lineasked => k_is)
    (case c_f_lineasked => k_is)
    (case k_lineasked => k_is)
    (case a_walkof => k_is)
    (case l_walkof => k_is)
    (case c_f_walkof => k_is)
    (case k_walkof => k_is)
    (case a_walkagrees => k_is)
    (case l_walkagrees => k_is)
    (case c_f_walkagrees => k_is)
    (case k_walkagrees => k_is)
    (case a_law => k_is)
    (case l_law => k_is)
    (case c_f_law => k_is)
    (case k_law => k_is)
    (case e_BadNumber => k_is)
    (case e_TworoomsError => k_is)
    (case e_NoEntry => k_is)
    (case e_TooMany => k_is)
    (case e_BadName => k_is)
    (case kit_BadNumber_TworoomsError => first | k_is | rfl)
    (case kit_BadNumber_NoEntry => first | k_is | rfl)
    (case kit_BadNumber_TooMany => first | k_is | rfl)
    (case kit_BadNumber_BadName => first | k_is | rfl)
    (case kit_BadNumber_ValueError => first | k_is | rfl)
    (case xL_BadNumber => k_is)
    (case rv_BadNumber => first | rfl | decide +kernel)
    (case sa_BadNumber => k_is)
    (case ex_BadNumber => k_is)
    (case ty_BadNumber => k_is)
    (case kC_BadNumber => k_is)
    (case ini_BadNumber => k_is)
    (case tf_BadNumber => k_is)
    (case ga_BadNumber => k_is)
    (case gg_BadNumber => k_is)
    (case hd_BadNumber => k_is)
    (case ha_BadNumber => k_is)
    (case hn_BadNumber => k_is)
    (case ht_BadNumber => k_is)
    (case hm_BadNumber => k_is)
    (case me_BadNumber => first | k_is | rfl)
    (case lI_BadNumber => k_is)
    (case cI_BadNumber => k_is)
    (case kI_BadNumber => k_is)
    (case no_BadNumber_what => k_is)
    (case no_BadNumber_value => k_is)
    (case g_MOST_FREE_PLACES => k_is)
    (case g_MOST_IN_LINE => k_is)
    (case g_FILL => k_is)
    (case g_SHARE => k_is)
    (case g_OWN => k_is)
    (case g_PASS_DEED => k_is)
    (case g_WINS => k_is)
    (case g_LOSES => k_is)
    (case g_PEACE => k_is)
    (case z_len => k_is)
    (case z_range => k_is)
    (case z_abs => k_is)
    (case z_ord => k_is)
    (case z_min => k_is)
    (case z_max => k_is)
    (case z_all => k_is)
    (case z_isinstance => k_is)
    (case z_int_ => k_is)
    (case z_str_ => k_is)
    (case z_bool_ => k_is)
    (case z_list_ => k_is)
    (case z_tuple_ => k_is)
    (case z_dict_ => k_is)
    (case z_VE => k_is)
