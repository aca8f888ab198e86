import PyProof.Rows.All
import Wide.All
import OpenK.AllK
import Wide.FinOn
import HandS.ForMost
import HandS.Wide
import HandS.IsInst
import HandS.ReplaceLit
import HandS.Codes
import HandS.ReplaceDef
import KE.IntTextLaws
import PySem.Challenge.RW_tworooms_k01_words_of_texts
set_option Elab.async false
set_option linter.all false
set_option maxRecDepth 100000
set_option maxHeartbeats 4000000
namespace K01
open PySem PySem.Spec PyProof.Rows L2
def topS (i : Nat) : Stmt := PySem.Challenge.pw_tworooms_k01_words_of_texts.main.body.getD i (.Pass ⟨0, 0, 0, 0⟩)
/-- built-ins that the top leaves as they are -/
structure Bi (mg : Str → Option Value) : Prop where
  len : mg "len" = none
  range : mg "range" = none
  abs : mg "abs" = none
  ord : mg "ord" = none
  min : mg "min" = none
  max : mg "max" = none
  all : mg "all" = none
  isinstance : mg "isinstance" = none
  int_ : mg "int" = none
  str_ : mg "str" = none
  bool_ : mg "bool" = none
  list_ : mg "list" = none
  tuple_ : mg "tuple" = none
  dict_ : mg "dict" = none
/-- a def of the top -/
structure Dn (K : PySem.W.Frag) (mg : Str → Option Value) (x : Str) (st : Stmt) (ps : List Str) (f : Addr) (fd : FuncData) : Prop where
  F : Fun K x x st f fd
  g : mg x = some (.ref f)
  b : Binds K fd ps []
/-! ### readings that simp can take -/
theorem callR_mono {X : Cx} {f : Value} {r r' : List V → Hp → VK → Prop} (h : CallR X f r) (k : ∀ xs H Q, r' xs H Q → r xs H Q) : CallR X f r' :=
  fun pins s σ H xs us Q I rv q => h pins s σ H xs us Q I rv (k _ _ _ q)
theorem r_seq {t u : TS} {D : Ends} {σ : L2.St} {H : Hp} (h : t { D with nx := u D } σ H) : tSeq t u D σ H := h
theorem r_cut {t u : TS} {D : Ends} {σ : L2.St} {H : Hp} (M : L2.St → Hp → Prop) (h1 : ∀ N : L2.St → Hp → Prop, (∀ σ H, M σ H → N σ H) → t { D with nx := N } σ H) (h2 : ∀ σ' H', M σ' H' → u D σ' H') : C8.tCut t u D σ H := ⟨M, h1 M (fun _ _ h => h), h2⟩
/-! ### loops and comprehensions, folded -/
def LoopR (lo : Int) (n : Nat) (g : TG) (tb : TS) (D : Ends) (σ : L2.St) (H : Hp) : Prop := ∃ W : Nat → Nat → L2.St → Hp → Prop, (∃ m, W 0 m σ H) ∧ ∀ i m σ H, W i m σ H →
  ((Itr lo n).stop i H ∧ D.nx σ H) ∨ ((Itr lo n).go i H ∧ ∃ N : L2.St → Hp → Prop, (∀ σ' H', N σ' H' → ∃ m', m' < m ∧ W (i + 1) m' σ' H') ∧ ∀ x H', (Itr lo n).yld i H x H' → g x σ H' fun σ2 H2 => tb { D with nx := N, ct := N, bk := D.nx } σ2 H2)
def LoopL (K : PySem.W.Frag) (a : Addr) (g : TG) (tb : TS) (D : Ends) (σ : L2.St) (H : Hp) : Prop := ∃ W : Nat → Nat → L2.St → Hp → Prop, (∃ m, W 0 m σ H) ∧ ∀ i m σ H, W i m σ H →
  ((Itl K a).stop i H ∧ D.nx σ H) ∨ ((Itl K a).go i H ∧ ∃ N : L2.St → Hp → Prop, (∀ σ' H', N σ' H' → ∃ m', m' < m ∧ W (i + 1) m' σ' H') ∧ ∀ x H', (Itl K a).yld i H x H' → g x σ H' fun σ2 H2 => tb { D with nx := N, ct := N, bk := D.nx } σ2 H2)
def LoopS (z : Str) (g : TG) (tb : TS) (D : Ends) (σ : L2.St) (H : Hp) : Prop := ∃ W : Nat → Nat → L2.St → Hp → Prop, (∃ m, W 0 m σ H) ∧ ∀ i m σ H, W i m σ H →
  ((Its z).stop i H ∧ D.nx σ H) ∨ ((Its z).go i H ∧ ∃ N : L2.St → Hp → Prop, (∀ σ' H', N σ' H' → ∃ m', m' < m ∧ W (i + 1) m' σ' H') ∧ ∀ x H', (Its z).yld i H x H' → g x σ H' fun σ2 H2 => tb { D with nx := N, ct := N, bk := D.nx } σ2 H2)
theorem forR_eq {ta : TA} {g : TG} {tb : TS} {D : Ends} {σ : L2.St} {H : Hp} : tFor (iRng1 ta) g tb D σ H = ta σ H (fun vs H1 => ∃ j : Int, vs = [V.int j] ∧ -(2 ^ 62) ≤ j ∧ j < 2 ^ 62 ∧ LoopR 0 j.toNat g tb D σ H1) := rfl
theorem forR2_eq {ta : TA} {g : TG} {tb : TS} {D : Ends} {σ : L2.St} {H : Hp} : tFor (iRng2 ta) g tb D σ H = ta σ H (fun vs H1 => ∃ i j : Int, vs = [V.int i, V.int j] ∧ (-(2 ^ 62) ≤ i ∧ i < 2 ^ 62 ∧ -(2 ^ 62) ≤ j ∧ j < 2 ^ 62) ∧ LoopR i (j - i).toNat g tb D σ H1) := rfl
theorem forS_eq {te : TE} {g : TG} {tb : TS} {D : Ends} {σ : L2.St} {H : Hp} : tFor (iStr te) g tb D σ H = te σ H (fun v H1 => ∃ z, v = V.str z ∧ LoopS z g tb D σ H1) := rfl
theorem forL_eq {K : PySem.W.Frag} {te : TE} {g : TG} {tb : TS} {D : Ends} {σ : L2.St} {H : Hp} : tFor (iList K te) g tb D σ H = te σ H (fun v H1 => ∃ a, v = V.ref a ∧ ∃ xs, SqL K H1 a xs ∧ LoopL K a g tb D σ H1) := by
  show te σ H _ = te σ H _
  congr 1
  funext v H1
  refine propext ⟨fun ⟨a, e, ⟨xs, h⟩, q⟩ => ⟨a, e, xs, h, q⟩, fun ⟨a, e, xs, h, q⟩ => ⟨a, e, ⟨xs, h⟩, q⟩⟩
theorem r_range {lo : Int} {n : Nat} {g : TG} {tb : TS} {D : Ends} {σ : L2.St} {H : Hp} (Pv : Nat → L2.St → Hp → Prop) (h0 : Pv 0 σ H)
    (hs : ∀ i σ H, i < n → Pv i σ H → ∀ N : L2.St → Hp → Prop, (∀ σ H, Pv (i + 1) σ H → N σ H) → g (.int (lo + i)) σ H fun σ2 H2 => tb { D with nx := N, ct := N, bk := D.nx } σ2 H2) (hd : ∀ σ H, Pv n σ H → D.nx σ H) : LoopR lo n g tb D σ H :=
  for_range Pv h0 (fun i σ H hi hp => hs i σ H hi hp _ (fun _ _ h => h)) hd
theorem r_list {K : PySem.W.Frag} {a : Addr} (xs : List V) {g : TG} {tb : TS} {D : Ends} {σ : L2.St} {H : Hp} (Pv : Nat → L2.St → Hp → Prop) (h0 : Pv 0 σ H) (hl : ∀ i σ H, i ≤ xs.length → Pv i σ H → SqL K H a xs)
    (hs : ∀ i x σ H, xs[i]? = some x → Pv i σ H → ∀ N : L2.St → Hp → Prop, (∀ σ H, Pv (i + 1) σ H → N σ H) → g x σ H fun σ2 H2 => tb { D with nx := N, ct := N, bk := D.nx } σ2 H2) (hd : ∀ σ H, Pv xs.length σ H → D.nx σ H) : LoopL K a g tb D σ H :=
  for_list Pv h0 hl (fun i x σ H hi hp => hs i x σ H hi hp _ (fun _ _ h => h)) hd
theorem r_str (z : Str) {g : TG} {tb : TS} {D : Ends} {σ : L2.St} {H : Hp} (Pv : Nat → L2.St → Hp → Prop) (h0 : Pv 0 σ H)
    (hs : ∀ i c σ H, z.cps.toList[i]? = some c → Pv i σ H → ∀ N : L2.St → Hp → Prop, (∀ σ H, Pv (i + 1) σ H → N σ H) → g (.str ⟨#[c]⟩) σ H fun σ2 H2 => tb { D with nx := N, ct := N, bk := D.nx } σ2 H2) (hd : ∀ σ H, Pv z.cps.toList.length σ H → D.nx σ H) : LoopS z g tb D σ H := by
  refine ⟨fun i m σ H => m = z.cps.toList.length - i ∧ i ≤ z.cps.toList.length ∧ Pv i σ H, ⟨_, rfl, Nat.zero_le _, h0⟩, ?_⟩
  rintro i m σ H ⟨rfl, hi, p⟩
  have el : z.cps.toList.length = z.cps.size := Array.length_toList
  by_cases hlt : i < z.cps.toList.length
  · refine .inr ⟨by rw [el] at hlt; exact hlt, Pv (i + 1), fun σ' H' p' => ⟨z.cps.toList.length - (i + 1), by omega, rfl, hlt, p'⟩, fun x H' y => ?_⟩
    obtain ⟨e, c, hc, ex⟩ := y
    subst e ex
    refine hs i c σ _ ?_ p _ fun _ _ h => h
    rw [Array.getElem?_toList]
    exact hc
  · have e : i = z.cps.toList.length := by omega
    subst e
    exact .inl ⟨by show z.cps.size ≤ z.cps.toList.length; omega, hd σ H p⟩
def LcL (K : PySem.W.Frag) (a : Addr) (g : TG) (te : TE) (vs : List Nat) (σ : L2.St) (H1 : Hp) (D : Addr) (Q : Hp → Prop) : Prop := ∃ W : Nat → Nat → Hp → Prop, (∃ m, W 0 m (upd H1 D (.lst []))) ∧ ∀ i m H, W i m H →
  ((Itl K a).stop i H ∧ Q H) ∨ ((Itl K a).go i H ∧ ∃ Nx : Hp → Prop, (∀ H', Nx H' → ∃ m', m' < m ∧ W (i + 1) m' H') ∧ ∀ x H', (Itl K a).yld i H x H' → g x (wipe σ vs) H' fun σ2 H2 => wipe σ2 vs = wipe σ vs ∧ tYes σ2 H2 fun b H3 =>
    if b = true then te σ2 H3 fun y H4 => ∃ acc, H4 D = some (.lst acc) ∧ acc.length < sizeLine ∧ Nx (upd H4 D (.lst (acc ++ [y]))) else Nx H3)
def LcR (lo : Int) (n : Nat) (g : TG) (te : TE) (vs : List Nat) (σ : L2.St) (H1 : Hp) (D : Addr) (Q : Hp → Prop) : Prop := ∃ W : Nat → Nat → Hp → Prop, (∃ m, W 0 m (upd H1 D (.lst []))) ∧ ∀ i m H, W i m H →
  ((Itr lo n).stop i H ∧ Q H) ∨ ((Itr lo n).go i H ∧ ∃ Nx : Hp → Prop, (∀ H', Nx H' → ∃ m', m' < m ∧ W (i + 1) m' H') ∧ ∀ x H', (Itr lo n).yld i H x H' → g x (wipe σ vs) H' fun σ2 H2 => wipe σ2 vs = wipe σ vs ∧ tYes σ2 H2 fun b H3 =>
    if b = true then te σ2 H3 fun y H4 => ∃ acc, H4 D = some (.lst acc) ∧ acc.length < sizeLine ∧ Nx (upd H4 D (.lst (acc ++ [y]))) else Nx H3)
def LcS (z : Str) (g : TG) (te : TE) (vs : List Nat) (σ : L2.St) (H1 : Hp) (D : Addr) (Q : Hp → Prop) : Prop := ∃ W : Nat → Nat → Hp → Prop, (∃ m, W 0 m (upd H1 D (.lst []))) ∧ ∀ i m H, W i m H →
  ((Its z).stop i H ∧ Q H) ∨ ((Its z).go i H ∧ ∃ Nx : Hp → Prop, (∀ H', Nx H' → ∃ m', m' < m ∧ W (i + 1) m' H') ∧ ∀ x H', (Its z).yld i H x H' → g x (wipe σ vs) H' fun σ2 H2 => wipe σ2 vs = wipe σ vs ∧ tYes σ2 H2 fun b H3 =>
    if b = true then te σ2 H3 fun y H4 => ∃ acc, H4 D = some (.lst acc) ∧ acc.length < sizeLine ∧ Nx (upd H4 D (.lst (acc ++ [y]))) else Nx H3)
theorem lcL_eq {K : PySem.W.Frag} {tl te : TE} {g : TG} {vs : List Nat} {σ : L2.St} {H : Hp} {Q : VK} : tLc (iList K tl) g tYes te vs σ H Q = tl σ H (fun v H1 => ∃ a, v = V.ref a ∧ ∃ xs, SqL K H1 a xs ∧ ∀ D, H1 D = none → LcL K a g te vs σ H1 D (Q (.ref D))) := by
  show tl σ H _ = tl σ H _
  congr 1
  funext v H1
  exact propext ⟨fun ⟨a, e, ⟨xs, h⟩, q⟩ => ⟨a, e, xs, h, q⟩, fun ⟨a, e, xs, h, q⟩ => ⟨a, e, ⟨xs, h⟩, q⟩⟩
theorem lcR_eq {ta : TA} {te : TE} {g : TG} {vs : List Nat} {σ : L2.St} {H : Hp} {Q : VK} : tLc (iRng1 ta) g tYes te vs σ H Q = ta σ H (fun vs' H1 => ∃ j : Int, vs' = [V.int j] ∧ -(2 ^ 62) ≤ j ∧ j < 2 ^ 62 ∧ ∀ D, H1 D = none → LcR 0 j.toNat g te vs σ H1 D (Q (.ref D))) := rfl
theorem lcS_eq {tl te : TE} {g : TG} {vs : List Nat} {σ : L2.St} {H : Hp} {Q : VK} : tLc (iStr tl) g tYes te vs σ H Q = tl σ H (fun v H1 => ∃ z, v = V.str z ∧ ∀ D, H1 D = none → LcS z g te vs σ H1 D (Q (.ref D))) := rfl
/-- a comprehension without a test; N: what is behind a turn -/
theorem r_lcL {K : PySem.W.Frag} {a : Addr} (xs : List V) {j : Nat} {te : TE} {vs : List Nat} {σ : L2.St} {H1 : Hp} {D : Addr} {Qd : Hp → Prop} (Pv : Nat → Hp → Prop) (hw : ∀ x, wipe ((wipe σ vs).set j (some x)) vs = wipe σ vs)
    (h0 : Pv 0 (upd H1 D (.lst []))) (hl : ∀ i H, i ≤ xs.length → Pv i H → SqL K H a xs)
    (hs : ∀ i x H, xs[i]? = some x → Pv i H → ∀ N : VK, (∀ y H4 acc, H4 D = some (.lst acc) → acc.length < sizeLine → Pv (i + 1) (upd H4 D (.lst (acc ++ [y]))) → N y H4) → te ((wipe σ vs).set j (some x)) H N) (hd : ∀ H, Pv xs.length H → Qd H) : LcL K a (gName j) te vs σ H1 D Qd :=
  lc_list (g := gName j) (tt := tYes) Pv h0 hl (fun i x H hx hp => ⟨hw x, by
    simp only [tYes, if_pos]
    exact hs i x H hx hp _ fun y H4 acc h1 h2 h3 => ⟨acc, h1, h2, h3⟩⟩) hd
theorem r_lcR {lo : Int} {n : Nat} {j : Nat} {te : TE} {vs : List Nat} {σ : L2.St} {H1 : Hp} {D : Addr} {Qd : Hp → Prop} (Pv : Nat → Hp → Prop) (hw : ∀ x, wipe ((wipe σ vs).set j (some x)) vs = wipe σ vs)
    (h0 : Pv 0 (upd H1 D (.lst [])))
    (hs : ∀ i H, i < n → Pv i H → ∀ N : VK, (∀ y H4 acc, H4 D = some (.lst acc) → acc.length < sizeLine → Pv (i + 1) (upd H4 D (.lst (acc ++ [y]))) → N y H4) → te ((wipe σ vs).set j (some (.int (lo + i)))) H N) (hd : ∀ H, Pv n H → Qd H) : LcR lo n (gName j) te vs σ H1 D Qd :=
  lc_range (g := gName j) (tt := tYes) Pv h0 (fun i H hi hp => ⟨hw _, by
    simp only [tYes, if_pos]
    exact hs i H hi hp _ fun y H4 acc h1 h2 h3 => ⟨acc, h1, h2, h3⟩⟩) hd
theorem r_lcS (z : Str) {j : Nat} {te : TE} {vs : List Nat} {σ : L2.St} {H1 : Hp} {D : Addr} {Qd : Hp → Prop} (Pv : Nat → Hp → Prop) (hw : ∀ x, wipe ((wipe σ vs).set j (some x)) vs = wipe σ vs)
    (h0 : Pv 0 (upd H1 D (.lst [])))
    (hs : ∀ i c H, z.cps.toList[i]? = some c → Pv i H → ∀ N : VK, (∀ y H4 acc, H4 D = some (.lst acc) → acc.length < sizeLine → Pv (i + 1) (upd H4 D (.lst (acc ++ [y]))) → N y H4) → te ((wipe σ vs).set j (some (.str ⟨#[c]⟩))) H N) (hd : ∀ H, Pv z.cps.toList.length H → Qd H) : LcS z (gName j) te vs σ H1 D Qd := by
  refine ⟨fun i m H => m = z.cps.toList.length - i ∧ i ≤ z.cps.toList.length ∧ Pv i H, ⟨_, rfl, Nat.zero_le _, h0⟩, ?_⟩
  rintro i m H ⟨rfl, hi, p⟩
  have el : z.cps.toList.length = z.cps.size := Array.length_toList
  by_cases hlt : i < z.cps.toList.length
  · refine .inr ⟨by rw [el] at hlt; exact hlt, Pv (i + 1), fun H' p' => ⟨z.cps.toList.length - (i + 1), by omega, rfl, hlt, p'⟩, fun x H' y => ?_⟩
    obtain ⟨e, c, hc, ex⟩ := y
    subst e ex
    refine ⟨hw _, ?_⟩
    simp only [tYes, if_pos]
    exact hs i c _ (by rw [Array.getElem?_toList]; exact hc) p _ fun y H4 acc h1 h2 h3 => ⟨acc, h1, h2, h3⟩
  · have e : i = z.cps.toList.length := by omega
    subst e
    exact .inl ⟨by show z.cps.size ≤ z.cps.toList.length; omega, hd H p⟩
/-! ### built-ins, by named readings -/
def rLenX (K : PySem.W.Frag) (xs : List V) (H : Hp) (Q : VK) : Prop := ∃ p, xs = [V.ref p] ∧ ∃ ys, (SqL K H p ys ∨ SqT K H p ys) ∧ Q (.int ys.length) H
theorem call_lenX {X : Cx} : CallR X (.builtin "len") (rLenX X.K) := callR_mono call_len_seq fun xs H Q ⟨p, e, ys, h, q⟩ => ⟨p, ys, e, h, q⟩
def rLenS (xs : List V) (H : Hp) (Q : VK) : Prop := ∃ z, xs = [V.str z] ∧ z.length ≤ sizeLine ∧ Q (.int z.length) H
theorem call_lenS {X : Cx} : CallR X (.builtin "len") rLenS := callR_mono call_len_str fun xs H Q h => h
def rIntI (xs : List V) (H : Hp) (Q : VK) : Prop := ∃ i, xs = [V.int i] ∧ Q (.int i) H
theorem call_intI {X : Cx} : CallR X (.type "int") rIntI := callR_mono call_int1 fun _ _ _ h => .inl h
def rIntB (xs : List V) (H : Hp) (Q : VK) : Prop := ∃ k, xs = [V.bl k] ∧ Q (.int (if k = true then 1 else 0)) H
theorem call_intB {X : Cx} : CallR X (.type "int") rIntB := callR_mono call_int1 fun _ _ _ h => .inr h
def rIntS (xs : List V) (H : Hp) (Q : VK) : Prop := ∃ z, xs = [V.str z] ∧ ∃ n, PySem.intText? z = some n ∧ z.length ≤ 640 ∧ Q (.int n) H
theorem call_intS {X : Cx} : CallR X (.type "int") rIntS := callR_mono call_int_str fun _ _ _ ⟨z, e, n, h1, h2, q⟩ => ⟨z, n, e, h1, h2, q⟩
def rStrI (xs : List V) (H : Hp) (Q : VK) : Prop := ∃ i, xs = [V.int i] ∧ i.natAbs.log2 < 1920 ∧ Q (.str (toString i)) H
theorem call_strI {X : Cx} : CallR X (.type "str") rStrI := callR_mono call_str_int fun _ _ _ h => h
def rAbs (xs : List V) (H : Hp) (Q : VK) : Prop := ∃ i, xs = [V.int i] ∧ Q (.int (if i < 0 then -i else i)) H
theorem call_absI {X : Cx} : CallR X (.builtin "abs") rAbs := callR_mono call_abs fun _ _ _ h => h
def rOrd (xs : List V) (H : Hp) (Q : VK) : Prop := ∃ c : Nat, xs = [V.str ⟨#[c]⟩] ∧ Q (.int c) H
theorem call_ordI {X : Cx} : CallR X (.builtin "ord") rOrd := callR_mono call_ord fun _ _ _ ⟨c, e, q⟩ => ⟨_, e, rfl, q⟩
def rMin (xs : List V) (H : Hp) (Q : VK) : Prop := ∃ i j, xs = [V.int i, V.int j] ∧ Q (.int (if j < i then j else i)) H
theorem call_minI {X : Cx} (hc : X.calm = true) : CallR X (.builtin "min") rMin := callR_mono (call_min2 hc) fun _ _ _ h => h
def rMax (xs : List V) (H : Hp) (Q : VK) : Prop := ∃ i j, xs = [V.int i, V.int j] ∧ Q (.int (if j > i then j else i)) H
theorem call_maxI {X : Cx} (hc : X.calm = true) : CallR X (.builtin "max") rMax := callR_mono (call_max2 hc) fun _ _ _ h => h
def rSplit (x : V) (xs : List V) (H : Hp) (Q : VK) : Prop := ∃ a, x = .str a ∧ ∃ b, xs = [V.str b] ∧ (b.length == 0) = false ∧ a.length + 2 ≤ sizeLine ∧ ∀ p, H p = none → Q (.ref p) (L2.upd H p (.lst ((Txt.split a b).map V.str)))
def rJoin (K : PySem.W.Frag) (x : V) (xs : List V) (H : Hp) (Q : VK) : Prop := ∃ a, x = .str a ∧ ∃ p, xs = [V.ref p] ∧ ∃ ys : List Str, SqL K H p (ys.map V.str) ∧ (ys.map (·.length)).sum + ys.length * a.length ≤ 16777216 ∧ Q (.str (Txt.join a ys)) H
theorem mtR_mono {X : Cx} {id : String} {r r' : V → List V → Hp → VK → Prop} (h : MtR X id r) (k : ∀ x xs H Q, r' x xs H Q → r x xs H Q) : MtR X id r' :=
  fun pins s σ H x xs v us Q I rx rv q => h pins s σ H x xs v us Q I rx rv (k _ _ _ _ q)
def rSplitN (x : V) (xs : List V) (H : Hp) (Q : VK) : Prop := ∃ a, x = .str a ∧ ∃ b, xs = [V.str b] ∧ (b.length == 0) = false ∧ a.length + 2 ≤ sizeLine ∧ ∀ p, H p = none → Q (.ref p) (L2.upd H p (.lst ((Txt.split a b).map V.str)))
theorem mt_splitN {X : Cx} : MtR X "str.split" rSplitN := mtR_mono mt_split fun _ _ _ _ ⟨a, e, b, e2, h, h2, q⟩ => ⟨a, b, e, e2, h, h2, q⟩
def rJoinN (K : PySem.W.Frag) (x : V) (xs : List V) (H : Hp) (Q : VK) : Prop := ∃ a, x = .str a ∧ ∃ p, xs = [V.ref p] ∧ ∃ ys : List Str, SqL K H p (ys.map V.str) ∧ (ys.map (·.length)).sum + ys.length * a.length ≤ 16777216 ∧ Q (.str (Txt.join a ys)) H
theorem mt_joinN {X : Cx} : MtR X "str.join" (rJoinN X.K) := mtR_mono mt_join fun _ _ _ _ ⟨a, e, p, e2, ys, h, h2, q⟩ => ⟨a, p, ys, e, e2, .inl h, h2, q⟩
/-- an item of a list or a tuple -/
def rIxX (K : PySem.W.Frag) : R2 := fun x y H Q => ∃ p i, x = .ref p ∧ y = .int i ∧ ∃ xs, (SqL K H p xs ∨ SqT K H p xs) ∧ ∃ v, atI xs i = some v ∧ Q v H
theorem ix_sx {X : Cx} : IxR X (rIxX X.K) := by
  intro value slice pins s σ H x y v u Q I rx ry h hs
  obtain ⟨p, i, e1, e2, xs, hq | hq, z, he, q⟩ := h
  · exact ix_list value slice pins s σ H x y v u Q I rx ry ⟨p, xs, i, z, e1, e2, hq, he, q⟩ hs
  · exact ix_tup value slice pins s σ H x y v u Q I rx ry ⟨p, xs, i, z, e1, e2, hq, he, q⟩ hs
/-! ### the same rules with the written part named -/
theorem ix_listK {X : Cx} {K : PySem.W.Frag} (h : X.K = K := by rfl) : IxR X (rIxL K) := h ▸ ix_list
theorem ix_tupK {X : Cx} {K : PySem.W.Frag} (h : X.K = K := by rfl) : IxR X (rIxT K) := h ▸ ix_tup
theorem ix_sxK {X : Cx} {K : PySem.W.Frag} (h : X.K = K := by rfl) : IxR X (rIxX K) := h ▸ ix_sx
theorem sl_listK {X : Cx} {K : PySem.W.Frag} (h : X.K = K := by rfl) : SlR X (rSlL K) := h ▸ sl_list
theorem call_lenXK {X : Cx} {K : PySem.W.Frag} (h : X.K = K := by rfl) : CallR X (.builtin "len") (rLenX K) := h ▸ call_lenX
theorem mt_joinK {X : Cx} {K : PySem.W.Frag} (h : X.K = K := by rfl) : MtR X "str.join" (rJoinN K) := h ▸ mt_joinN
theorem pi_listK {X : Cx} {K : PySem.W.Frag} {tg l : Expr} {tl : TE} (hl : PE X l tl) (h : X.K = K := by rfl) : PI X tg l (iList K tl) := h ▸ pi_list hl
theorem atI_get {α : Type} {xs : List α} {i : Int} (h0 : 0 ≤ i) (h : i.toNat < xs.length) : ∃ z, atI xs i = some z ∧ xs[i.toNat]? = some z := by
  have e : i = (i.toNat : Int) := by omega
  have g := List.getElem?_eq_getElem h
  exact ⟨_, (congrArg (atI xs) e).trans (atI_nat g), g⟩
theorem atI_map {ns : List Int} {i : Int} (h0 : 0 ≤ i) (h : i.toNat < ns.length) : ∃ z, atI (ns.map V.int) i = some (.int z) := by
  obtain ⟨z, e1, e2⟩ := atI_get (xs := ns.map V.int) h0 (by rw [List.length_map]; exact h)
  rw [List.getElem?_map] at e2
  cases e : ns[i.toNat]? with
  | none =>
    rw [e] at e2
    cases e2
  | some y =>
    rw [e] at e2
    cases e2
    exact ⟨y, e1⟩
theorem map_get {α β : Type} {f : α → β} {xs : List α} {i : Nat} {y : β} (h : (xs.map f)[i]? = some y) : ∃ x, xs[i]? = some x ∧ y = f x := by
  rw [List.getElem?_map] at h
  cases e : xs[i]? with
  | none => rw [e] at h; cases h
  | some x => rw [e] at h; exact ⟨x, rfl, (Option.some.inj h).symm⟩
theorem take_map {α β : Type} {f : α → β} {xs : List α} {i : Nat} {x : α} (h : xs[i]? = some x) : (xs.take i).map f ++ [f x] = (xs.take (i + 1)).map f := by
  rw [List.take_add_one, h, List.map_append]
  rfl
theorem lt_of_get {α : Type} {xs : List α} {i : Nat} {x : α} (h : xs[i]? = some x) : i < xs.length := (List.getElem?_eq_some_iff.mp h).1
theorem start1 {N : List Str} {vs : List V} : L2.start N vs = vs.map some ++ List.replicate (N.length - vs.length) none := rfl
theorem sq_of {K : PySem.W.Frag} {H : Hp} {a : Addr} {xs : List V} (h : H a = some (.lst xs)) : SqL K H a xs := .inl (.inl h)
/-- all that was tracked stands, but what is at a -/
def But (a : Addr) (H H' : Hp) : Prop := ∀ b o, b ≠ a → H b = some o → H' b = some o
theorem But.refl (a : Addr) (H : Hp) : But a H H := fun _ _ _ h => h
theorem But.trans {a : Addr} {H H1 H2 : Hp} (p : But a H H1) (q : But a H1 H2) : But a H H2 := fun b o n h => q b o n (p b o n h)
theorem But.updA {a : Addr} {H : Hp} {o : HO} : But a H (L2.upd H a o) := fun b x n h => by rw [upd_ne n]; exact h
theorem But.new {a p : Addr} {H : Hp} {o : HO} (h : H p = none) : But a H (upd H p o) := fun b x _ e => by rw [upd_ne (ne_of_none e h)]; exact e
theorem But.of {a : Addr} {H H' : Hp} (h : Same H H') : But a H H' := fun b o _ e => h b o e
theorem Same.new {p : Addr} {H : Hp} {o : HO} (h : H p = none) : Same H (upd H p o) := fun b x e => by rw [upd_ne (ne_of_none e h)]; exact e
theorem But.same {c : Addr} {H H' : Hp} (n : H c = none) (h : But c H H') : Same H H' := fun b o e => h b o (ne_of_none e n) e
theorem But.seq {K : PySem.W.Frag} {c a : Addr} {H H' : Hp} {xs : List V} (h : But c H H') (n : a ≠ c) (S : SqL K H a xs) : SqL K H' a xs := by
  rcases S with (S | ⟨o, S⟩) | S
  · exact .inl (.inl (h _ _ n S))
  · exact .inl (.inr ⟨o, h _ _ n S⟩)
  · exact .inr S
end K01
namespace K01
open PySem PySem.Spec PyProof.Rows L2
local macro_rules | `(tactic| walk_at "rd") => `(tactic| simp only [start1, wipe, tAsg, gName, gSub, tVar, tC, tOp, tUn, tTest, tIfS, tRet, tRetN, tDrop, tB, tAnd, tOr, tNot, tAndV, tOrV, tNotV, tIf, tCB, tCons, tNil, tNext, tCall, tBM, tTup, tLst, rI0, rI, rEq, rNe, scal, forR_eq, forR2_eq, forS_eq, forL_eq, lcL_eq, lcR_eq, lcS_eq, rLenX, rLenS, tM1, tM0, rSplitN, rJoinN, exists_eq, rIntI, rIntB, rIntS, rStrI, rAbs, rOrd, rMin, rMax, rIxL, rIxX, rSetL, rAppend, rIxS, rSlS, rSlL, tSl, List.map_cons, List.map_nil, List.replicate_succ, List.replicate_zero, List.length_cons, List.length_nil, Nat.reduceSub, Nat.reduceAdd, Nat.zero_add, Nat.sub_self, List.getElem?_cons_zero, List.getElem?_cons_succ, List.set_cons_zero, List.set_cons_succ, List.append_nil, List.nil_append, List.cons_append, Option.some.injEq, exists_eq_left', exists_eq_left, exists_eq', exists_and_left, exists_and_right, V.int.injEq, V.str.injEq, V.bl.injEq, V.ref.injEq, List.cons.injEq, and_true, true_and, and_assoc, decide_eq_true_eq, Bool.not_eq_true', decide_eq_false_iff_not, ite_true, ite_false, if_true, if_false, Bool.not_true, Bool.not_false, Bool.false_eq_true, eq_self_iff_true, reduceIte, ne_eq, Int.reduceEq, not_false_eq_true])
local macro_rules | `(tactic| walk_at "rt") => `(tactic| try walk_at "rd")
local macro_rules | `(tactic| walk_at "st") => `(tactic| (refine r_seq ?_; walk_at "rt"))
local macro_rules | `(tactic| walk_at "hp") => `(tactic| first | assumption | exact upd_same | (rw [upd_ne (by assumption)]; walk_at "hp"))
local macro_rules | `(tactic| walk_at "ex1") => `(tactic| ((with_reducible refine Exists.intro ?w (And.intro ?hx ?_)); (case hx => first | exact sq_of (by walk_at "hp") | exact .inl (sq_of (by walk_at "hp")) | exact rfl | (show _ = some (HO.lst _); walk_at "hp"))))
local macro_rules | `(tactic| walk_at "ex") => `(tactic| repeat (first | walk_at "ex1" | walk_at "rd"))
abbrev s_mixed : Stmt := topS 8
theorem sc_mixed : FnScope ["number", "turn", "many", "one", "two", "three", "value"] ["number", "turn", "many"] (defScope s_mixed) := ⟨rfl, rfl, rfl, by decide +kernel, rfl, by decide +kernel, by decide +kernel⟩
abbrev s_take : Stmt := topS 9
theorem sc_take : FnScope ["store", "many", "value", "number", "cell"] ["store", "many"] (defScope s_take) := ⟨rfl, rfl, rfl, by decide +kernel, rfl, by decide +kernel, by decide +kernel⟩
abbrev s_pick : Stmt := topS 10
theorem sc_pick : FnScope ["store", "row"] ["store", "row"] (defScope s_pick) := ⟨rfl, rfl, rfl, by decide +kernel, rfl, by decide +kernel, by decide +kernel⟩
abbrev s_chance : Stmt := topS 11
theorem sc_chance : FnScope ["store", "many"] ["store", "many"] (defScope s_chance) := ⟨rfl, rfl, rfl, by decide +kernel, rfl, by decide +kernel, by decide +kernel⟩
abbrev s_number : Stmt := topS 12
theorem sc_number : FnScope ["store", "low", "high", "kind"] ["store", "low", "high"] (defScope s_number) := ⟨rfl, rfl, rfl, by decide +kernel, rfl, by decide +kernel, by decide +kernel⟩
abbrev s_size : Stmt := topS 13
theorem sc_size : FnScope ["store", "low", "high", "kind"] ["store", "low", "high"] (defScope s_size) := ⟨rfl, rfl, rfl, by decide +kernel, rfl, by decide +kernel, by decide +kernel⟩
/-! ### the store that draws -/
structure StoreAt (H : Hp) (a c : Addr) : Prop where
  ex : ∃ (cells : List Int) (pos val turn seed : Int), H a = some (.lst [.ref c, .int pos, .int val, .int turn, .int seed]) ∧ H c = some (.lst (cells.map V.int)) ∧ 0 ≤ pos ∧ 0 ≤ val
  ne : c ≠ a
/-- what a draw leaves -/
def Drawn (H : Hp) (a c : Addr) (R : V → Prop) (Q : VK) : Prop := ∀ v H', StoreAt H' a c → But a H H' → R v → Q v H'
def spMixed : Sp := fun vs H Q _ => ∃ (n t m : Int), vs = [.int n, .int t, .int m] ∧ 2 ≤ m ∧ ∀ r : Int, 0 ≤ r → r < m → Q (.int r) H
/-- a number below many -/
def Below (m : Int) (v : V) : Prop := ∃ r : Int, v = .int r ∧ 0 ≤ r ∧ (r < m ∨ r = 0)
def spTake : Sp := fun vs H Q _ => ∃ (a c : Addr) (m : Int), vs = [.ref a, .int m] ∧ StoreAt H a c ∧ m ≤ 2 ^ 70 ∧ Drawn H a c (Below m) Q
theorem fm {x M y : Int} (hM : 0 < M) (e : x.fmod M = y) : 0 ≤ y ∧ y < M := by
  rw [← e, Int.fmod_eq_emod_of_nonneg _ (by omega)]
  exact ⟨Int.emod_nonneg _ (by omega), Int.emod_lt_of_pos _ hM⟩
theorem small_div {m : Int} (h2 : 2 ≤ m) (h : m ≤ 2 ^ 70) (x : Int) : CDivW x m := wide_div (b := 71) (by omega) (by omega) (by decide) (by decide)
section
variable {P : Program} {w : World} {K : PySem.W.Frag} {mg : Str → Option Value} {base : Heap}
theorem ok_mixed {f : Addr} {fd : FuncData} (B : Bi mg) (D : Dn K mg "_law_mixed" s_mixed ["number", "turn", "many"] f fd) : FnOk P w K mg base CX0 1 f fd ["number", "turn", "many"] spMixed := by
  refine D.F.ok sc_mixed (fun vs H Q E h => ?_) (fun cdv A outer s H vs Q E hr h => ?_)
  · obtain ⟨n, t, m, rfl, _⟩ := h
    rfl
  · obtain ⟨n, t, m, rfl, hm, q⟩ := h
    refine ⟨_, (pss_cons (ps_set (i := 3) sc_mixed.nd rfl (.inl rfl) (pe_op op_modN (pe_callTy call_intI (by rfl) B.int_ (by decide +kernel) (pa_cons (pe_op op_add (pe_op op_add (pe_op op_mul (pv 0) pe_int) (pe_op op_mul (pv 1) pe_int)) pe_int) pa_nil)) pe_int))
      (pss_cons (ps_set (i := 4) sc_mixed.nd rfl (.inl rfl) (pe_op op_modN (pe_callTy call_intI (by rfl) B.int_ (by decide +kernel) (pa_cons (pe_op op_add (pe_op op_add (pe_op op_mul (pv 3) (pv 3)) (pv 1)) pe_int) pa_nil)) pe_int))
      (pss_cons (ps_set (i := 5) sc_mixed.nd rfl (.inl rfl) (pe_op op_modN (pe_callTy call_intI (by rfl) B.int_ (by decide +kernel) (pa_cons (pe_op op_add (pe_op op_mul (pv 4) (pv 4)) (pv 3)) pa_nil)) pe_int))
      (pss_cons (ps_set (i := 6) sc_mixed.nd rfl (.inl rfl) (pe_op op_fdivW (pv 5) pe_int))
      (C8.pss_cut (ps_if (pt_cmpR op_gt (pv 2) pe_int (nomark _)) (pss_one (ps_set (i := 6) sc_mixed.nd rfl (.inl rfl) (pe_op op_add (pe_op op_mul (pv 6) pe_int) (pe_op op_modN (pe_callTy call_intI (by rfl) B.int_ (by decide +kernel) (pa_cons (pe_op op_add (pe_op op_mul (pv 5) (pv 5)) (pv 4)) pa_nil)) pe_int)))) pss_nil)
      (pss_one (ps_ret (pe_op op_modN (pe_callTy call_intI (by rfl) B.int_ (by decide +kernel) (pa_cons (pv 6) pa_nil)) (pv 2))))))))), ?_⟩
    walk_at "st"
    refine ⟨.inr ⟨by decide, by decide⟩, .inr ⟨by decide, by decide⟩, ?_⟩
    generalize e1 : Int.fmod _ _ = one
    obtain ⟨a1, b1⟩ := fm (by decide) e1
    walk_at "st"
    refine ⟨.inl ⟨by omega, by omega⟩, ?_⟩
    generalize e2 : Int.fmod _ _ = two
    obtain ⟨a2, b2⟩ := fm (by decide) e2
    walk_at "st"
    refine ⟨.inl ⟨by omega, by omega⟩, ?_⟩
    generalize e3 : Int.fmod _ _ = three
    obtain ⟨a3, b3⟩ := fm (by decide) e3
    walk_at "st"
    refine ⟨⟨by decide, by decide⟩, ?_⟩
    refine r_cut (fun σ' H' => (∃ v : Int, σ' = [some (.int n), some (.int t), some (.int m), some (.int one), some (.int two), some (.int three), some (.int v)]) ∧ H' = H) (fun N k => ?_) ?_
    · walk_at "rt"
      exact ite2 (fun _ => ⟨.inr ⟨by decide, by decide⟩, .inl ⟨by omega, by omega⟩, k _ _ ⟨⟨_, rfl⟩, rfl⟩⟩) (fun _ => k _ _ ⟨⟨_, rfl⟩, rfl⟩)
    · rintro σ' H' ⟨⟨v, rfl⟩, rfl⟩
      walk_at "rt"
      generalize e4 : Int.fmod _ _ = r
      obtain ⟨a4, b4⟩ := fm (by omega) e4
      exact ⟨by omega, q r a4 b4⟩
theorem ok_take {f fM : Addr} {fd fdM : FuncData} (B : Bi mg) (D : Dn K mg "_law_take" s_take ["store", "many"] f fd) (D_mixed : Dn K mg "_law_mixed" s_mixed ["number", "turn", "many"] fM fdM) : FnOk P w K mg base CX0 2 f fd ["store", "many"] spTake := by
  have G_mixed : FnOk P w K mg base CX0 1 fM fdM ["number", "turn", "many"] spMixed := ok_mixed B D_mixed
  refine D.F.ok sc_take (fun vs H Q E h => ?_) (fun cdv A outer s H vs Q E hr h => ?_)
  · obtain ⟨a, c, m, rfl, _⟩ := h
    rfl
  · obtain ⟨a, c, m, rfl, S, hm, q⟩ := h
    obtain ⟨cells, pos, val, turn, seed, ha, hc, h0, hv⟩ := S.ex
    refine ⟨_, (pss_cons (ps_if (pt_cmpR op_lt (pv 1) pe_int (nomark _)) (pss_one (ps_ret pe_int)) pss_nil)
      (pss_cons (ps_set (i := 2) sc_take.nd rfl (.inl rfl) (pe_ix (ix_listK (K := K)) (pv 0) pe_int (fun _ _ => rfl)))
      (pss_cons (ps_set (i := 3) sc_take.nd rfl (.inl rfl) (pe_ix (ix_listK (K := K)) (pv 0) pe_int (fun _ _ => rfl)))
      (C8.pss_cut (ps_if (pt_cmpR op_eq (pv 2) pe_int (nomark _)) (pss_cons (ps_asg (pe_op op_add (pe_ix (ix_listK (K := K)) (pv 0) pe_int (fun _ _ => rfl)) pe_int) (pg_sub (pv 0) pe_int set_list (fun _ => rfl)))
      (pss_one (ps_if (pt_cmpR op_lt (pe_ix (ix_listK (K := K)) (pv 0) pe_int (fun _ _ => rfl)) (pe_callB (call_lenXK (K := K)) (by rfl) B.len PySem.boot_len (pa_cons (pe_ix (ix_listK (K := K)) (pv 0) pe_int (fun _ _ => rfl)) pa_nil)) (nomark _)) (pss_cons (ps_set (i := 4) sc_take.nd rfl (.inl rfl) (pe_ix (ix_listK (K := K)) (pe_ix (ix_listK (K := K)) (pv 0) pe_int (fun _ _ => rfl)) (pe_ix (ix_listK (K := K)) (pv 0) pe_int (fun _ _ => rfl)) (fun _ _ => rfl)))
      (pss_cons (ps_asg (pe_op op_add (pe_ix (ix_listK (K := K)) (pv 0) pe_int (fun _ _ => rfl)) pe_int) (pg_sub (pv 0) pe_int set_list (fun _ => rfl)))
      (pss_cons (ps_set (i := 3) sc_take.nd rfl (.inl rfl) (pe_op op_mul (pe_callB call_absI (by rfl) B.abs (by decide +kernel) (pa_cons (pv 4) pa_nil)) pe_int))
      (C8.pss_cut (ps_if (pt_cmpR op_lt (pv 4) pe_int (nomark _)) (pss_one (ps_set (i := 3) sc_take.nd rfl (.inl rfl) (pe_op op_add (pv 3) pe_int))) pss_nil)
      (pss_one (ps_if (pt_cmpR op_ge (pe_callB call_absI (by rfl) B.abs (by decide +kernel) (pa_cons (pv 4) pa_nil)) (pe_op op_pow pe_int pe_int) (nomark _)) (pss_one (ps_set (i := 2) sc_take.nd rfl (.inl rfl) (pe_callB call_absI (by rfl) B.abs (by decide +kernel) (pa_cons (pv 4) pa_nil)))) pss_nil)))))) pss_nil))) pss_nil)
      (pss_cons (ps_if (pt_cmpR op_eq (pv 2) pe_int (nomark _)) (pss_one (ps_ret (pe_call G_mixed (hr.mono (by omega)) (by rfl) D_mixed.g D_mixed.F.kp D_mixed.b .nil pass0 (pa_cons (pv 3) (pa_cons (pe_ix (ix_listK (K := K)) (pv 0) pe_int (fun _ _ => rfl)) (pa_cons (pv 1) pa_nil)))))) pss_nil)
      (pss_cons (ps_asg (pe_op op_fdivW (pe_callTy call_intI (by rfl) B.int_ (by decide +kernel) (pa_cons (pv 2) pa_nil)) (pv 1)) (pg_sub (pv 0) pe_int set_list (fun _ => rfl)))
      (pss_one (ps_ret (pe_op op_modN (pe_callTy call_intI (by rfl) B.int_ (by decide +kernel) (pa_cons (pv 2) pa_nil)) (pv 1)))))))))), ?_⟩
    walk_at "st"
    refine ite2 (fun hlt => ?_) (fun hge => ?_)
    · exact q _ _ S (But.refl _ _) ⟨0, rfl, by omega, .inr rfl⟩
    walk_at "st"
    refine ⟨_, sq_of ha, _, rfl, ?_⟩
    walk_at "st"
    refine ⟨_, sq_of ha, _, rfl, ?_⟩
    refine r_cut (fun σ' H' => ∃ (v n pos' turn' : Int) (x : Option V), σ' = [some (.ref a), some (.int m), some (.int v), some (.int n), x] ∧ H' a = some (.lst [.ref c, .int pos', .int val, .int turn', .int seed]) ∧ H' c = some (.lst (cells.map V.int)) ∧ 0 ≤ pos' ∧ 0 ≤ v ∧ But a H H') (fun N k => ?_) ?_
    · walk_at "rt"
      refine ite2 (fun hz => ?_) (fun hz => k _ _ ⟨_, _, _, _, _, rfl, ha, hc, h0, hv, But.refl _ _⟩)
      have nca := S.ne
      walk_at "st"
      walk_at "ex"
      generalize hH1 : upd H a _ = H1
      have ha1 : H1 a = some (.lst [.ref c, .int pos, .int val, .int (turn + 1), .int seed]) := by rw [← hH1]; exact upd_same
      have hc1 : H1 c = some (.lst (cells.map V.int)) := by rw [← hH1, upd_ne nca]; exact hc
      have b1 : But a H H1 := by rw [← hH1]; exact But.updA
      refine ite2 (fun hp => ?_) (fun hp => k _ _ ⟨_, _, _, _, _, rfl, ha1, hc1, h0, hv, b1⟩)
      have hp' : pos.toNat < cells.length := by
        rw [List.length_map] at hp
        omega
      obtain ⟨cell, hat⟩ := atI_map h0 hp'
      walk_at "st"
      walk_at "ex"

      refine ⟨_, hat, ?_⟩
      walk_at "st"
      walk_at "ex"
      generalize hH2 : upd H1 a _ = H2
      have ha2 : H2 a = some (.lst [.ref c, .int (pos + 1), .int val, .int (turn + 1), .int seed]) := by rw [← hH2]; exact upd_same
      have hc2 : H2 c = some (.lst (cells.map V.int)) := by rw [← hH2, upd_ne nca]; exact hc1
      have b2 : But a H H2 := b1.trans (by rw [← hH2]; exact But.updA)
      walk_at "st"
      refine ⟨.inr ⟨by decide, by decide⟩, ?_⟩
      refine r_cut (fun σ' H' => ∃ (n : Int), σ' = [some (.ref a), some (.int m), some (.int val), some (.int n), some (.int cell)] ∧ H' = H2) (fun N' k' => ?_) ?_
      · walk_at "rt"
        exact ite2 (fun _ => k' _ _ ⟨_, rfl, rfl⟩) (fun _ => k' _ _ ⟨_, rfl, rfl⟩)
      · rintro σ' H' ⟨n, rfl, rfl⟩
        walk_at "rt"
        refine ⟨⟨by decide, by decide, by decide⟩, ite2 (fun _ => k _ _ ⟨_, _, _, _, _, rfl, ha2, hc2, by omega, by split <;> omega, b2⟩) (fun _ => k _ _ ⟨_, _, _, _, _, rfl, ha2, hc2, by omega, hv, b2⟩)⟩
    · rintro σ' H' ⟨v, n, pos', turn', x, rfl, ha', hc', h0', hv', b'⟩
      have nca := S.ne
      walk_at "st"
      refine ite2 (fun hz => ?_) (fun hz => ?_)
      · walk_at "ex"
        refine ⟨_, _, _, rfl, by omega, fun r h1 h2 => q _ _ ⟨⟨cells, pos', val, turn', seed, ha', hc', h0', hv⟩, nca⟩ b' ⟨r, rfl, h1, .inl h2⟩⟩
      · walk_at "st"
        refine ⟨small_div (by omega) hm _, ?_⟩
        walk_at "ex"
        generalize hH1 : upd H' a _ = H1
        have ha1 : H1 a = some (.lst [.ref c, .int pos', .int (v / m), .int turn', .int seed]) := by rw [← hH1]; exact upd_same
        have hc1 : H1 c = some (.lst (cells.map V.int)) := by rw [← hH1, upd_ne nca]; exact hc'
        have b1 : But a H H1 := b'.trans (by rw [← hH1]; exact But.updA)

        refine ⟨by omega, ?_⟩
        generalize e4 : Int.fmod _ _ = r
        obtain ⟨a4, b4⟩ := fm (by omega) e4
        exact q _ _ ⟨⟨cells, pos', v / m, turn', seed, ha1, hc1, h0', Int.ediv_nonneg hv' (by omega)⟩, nca⟩ b1 ⟨r, rfl, a4, .inl b4⟩
end
end K01
namespace K01
open PySem PySem.Spec PyProof.Rows L2
local macro_rules | `(tactic| walk_at "rd") => `(tactic| simp only [start1, wipe, tAsg, gName, gSub, tVar, tC, tOp, tUn, tTest, tIfS, tRet, tRetN, tDrop, tB, tAnd, tOr, tNot, tAndV, tOrV, tNotV, tIf, tCB, tCons, tNil, tNext, tCall, tBM, tTup, tLst, rI0, rI, rEq, rNe, scal, forR_eq, forR2_eq, forS_eq, forL_eq, lcL_eq, lcR_eq, lcS_eq, rLenX, rLenS, tM1, tM0, rSplitN, rJoinN, exists_eq, rIntI, rIntB, rIntS, rStrI, rAbs, rOrd, rMin, rMax, rIxL, rIxX, rSetL, rAppend, rIxS, rSlS, rSlL, tSl, List.map_cons, List.map_nil, List.replicate_succ, List.replicate_zero, List.length_cons, List.length_nil, Nat.reduceSub, Nat.reduceAdd, Nat.zero_add, Nat.sub_self, List.getElem?_cons_zero, List.getElem?_cons_succ, List.set_cons_zero, List.set_cons_succ, List.append_nil, List.nil_append, List.cons_append, Option.some.injEq, exists_eq_left', exists_eq_left, exists_eq', exists_and_left, exists_and_right, V.int.injEq, V.str.injEq, V.bl.injEq, V.ref.injEq, List.cons.injEq, and_true, true_and, and_assoc, decide_eq_true_eq, Bool.not_eq_true', decide_eq_false_iff_not, ite_true, ite_false, if_true, if_false, Bool.not_true, Bool.not_false, Bool.false_eq_true, eq_self_iff_true, reduceIte, ne_eq, Int.reduceEq, not_false_eq_true])
local macro_rules | `(tactic| walk_at "rt") => `(tactic| try walk_at "rd")
local macro_rules | `(tactic| walk_at "st") => `(tactic| (refine r_seq ?_; walk_at "rt"))
local macro_rules | `(tactic| walk_at "hp") => `(tactic| first | assumption | exact upd_same | (rw [upd_ne (by assumption)]; walk_at "hp"))
local macro_rules | `(tactic| walk_at "ex1") => `(tactic| ((with_reducible refine Exists.intro ?w (And.intro ?hx ?_)); (case hx => first | exact sq_of (by walk_at "hp") | exact .inl (sq_of (by walk_at "hp")) | exact rfl | (show _ = some (HO.lst _); walk_at "hp"))))
local macro_rules | `(tactic| walk_at "ex") => `(tactic| repeat (first | walk_at "ex1" | walk_at "rd"))
abbrev s_store : Stmt := topS 7
theorem sc_store : FnScope ["script", "cell", "cells", "seed"] ["script"] (defScope s_store) := ⟨rfl, rfl, rfl, by decide +kernel, rfl, by decide +kernel, by decide +kernel⟩
abbrev s_signsoftexts : Stmt := topS 18
theorem sc_signsoftexts : FnScope ["found"] [] (defScope s_signsoftexts) := ⟨rfl, rfl, rfl, by decide +kernel, rfl, by decide +kernel, by decide +kernel⟩
def spStore (K : PySem.W.Frag) : Sp := fun vs H Q _ => ∃ (s : Addr) (ns : List Int), vs = [.ref s] ∧ SqL K H s (ns.map V.int) ∧ ns.length ≤ 63 ∧ ∀ (a c : Addr) (H' : Hp), Same H H' → H a = none → StoreAt H' a c → Q (.ref a) H'
def spPick : Sp := fun vs H Q _ => ∃ (a c : Addr) (z : Str), vs = [.ref a, .str z] ∧ StoreAt H a c ∧ z.cps.toList ≠ [] ∧ z.length ≤ 1000 ∧ Drawn H a c (fun v => ∃ k, k ∈ z.cps.toList ∧ v = .str ⟨#[k]⟩) Q
def spChance : Sp := fun vs H Q _ => ∃ (a c : Addr) (m : Int), vs = [.ref a, .int m] ∧ StoreAt H a c ∧ m ≤ 2 ^ 70 ∧ Drawn H a c (fun v => ∃ b, v = .bl b) Q
/-- a number from low to high -/
def Within (lo hi : Int) (v : V) : Prop := ∃ r : Int, v = .int r ∧ lo ≤ r ∧ r ≤ hi
def spRange : Sp := fun vs H Q _ => ∃ (a c : Addr) (lo hi : Int), vs = [.ref a, .int lo, .int hi] ∧ StoreAt H a c ∧ lo ≤ hi ∧ hi - lo < 2 ^ 70 ∧ Drawn H a c (Within lo hi) Q
theorem Drawn.mono {H H1 : Hp} {a c : Addr} {R R' : V → Prop} {Q : VK} (b : But a H H1) (k : ∀ v, R' v → R v) (q : Drawn H a c R Q) : Drawn H1 a c R' Q := fun v H' s b' r => q v H' s (b.trans b') (k v r)
theorem drawn_at {H H1 : Hp} {a c : Addr} {R : V → Prop} {Q : VK} {v : V} (q : Drawn H a c R Q) (S : StoreAt H1 a c) (b : But a H H1) (r : R v) : Q v H1 := q v H1 S b r
section
variable {P : Program} {w : World} {K : PySem.W.Frag} {mg : Str → Option Value} {base : Heap}
theorem ok_store {f : Addr} {fd : FuncData} (B : Bi mg) (D : Dn K mg "_law_store" s_store ["script"] f fd) : FnOk P w K mg base CX0 1 f fd ["script"] (spStore K) := by
  refine D.F.ok sc_store (fun vs H Q E h => ?_) (fun cdv A outer s H vs Q E hr h => ?_)
  · obtain ⟨a, ns, rfl, _⟩ := h
    rfl
  · obtain ⟨a, ns, rfl, S, hl, q⟩ := h
    refine ⟨_, (pss_cons (ps_setLc (i := 2) (own := [("cell", 1)]) (g := gName 1) (tt := tYes) (by rfl) sc_store.nd rfl rfl (sw_true rfl rfl rfl (by decide +kernel)) (pi_listK (K := K) (pv 0)) (blkOk_by (own := [("cell", 1)]) (N := ["script", "cell", "cells", "seed"]) (sc := defScope s_store) (by decide +kernel)) (fun _ _ _ _ _ => pg_name (i := 1) sc_store.nd rfl (Or.inl rfl)) (fun _ _ _ _ _ => pts_nil) (fun _ _ _ _ _ => (pe_callTy call_intI (by rfl) B.int_ (by decide +kernel) (pa_cons (pv 1) pa_nil))))
      (pss_cons (ps_set (i := 3) sc_store.nd rfl (.inl rfl) (pe_op op_add pe_int (pe_callB (call_lenXK (K := K)) (by rfl) B.len PySem.boot_len (pa_cons (pv 2) pa_nil))))
      (pss_cons (ps_for PassesOwn.never rfl (pi_listK (K := K) (pv 2)) (pg_name (i := 1) sc_store.nd rfl (.inl rfl)) (pss_one (ps_set (i := 3) sc_store.nd rfl (.inl rfl) (pe_op op_modN (pe_callTy call_intI (by rfl) B.int_ (by decide +kernel) (pa_cons (pe_op op_add (pe_op op_mul (pv 3) pe_int) (pe_op op_modN (pe_callTy call_intI (by rfl) B.int_ (by decide +kernel) (pa_cons (pv 1) pa_nil)) pe_int)) pa_nil)) pe_int))))
      (pss_one (ps_ret (pe_lst (pa_cons (pv 2) (pa_cons pe_int (pa_cons pe_int (pa_cons pe_int (pa_cons (pv 3) pa_nil))))))))))), ?_⟩
    refine r_seq ?_
    refine ⟨_, rfl, a, rfl, ⟨_, S⟩, fun c nc => ?_⟩
    refine r_lcL (K := K) (a := a) (ns.map V.int) (fun i H' => But c H H' ∧ H' c = some (.lst ((ns.take i).map V.int))) (fun _ => rfl) ⟨But.updA, upd_same⟩ (fun i H' _ h => (h.1.same nc).seq S) ?_ ?_
    · rintro i x H' hx ⟨sm, hc⟩ N k
      obtain ⟨z, hz, rfl⟩ := map_get hx
      have hi := lt_of_get hz
      have hw : wipe [some (V.ref a), none, none, none] [1] = [some (V.ref a), none, none, none] := rfl
      show tCB _ _ [some (V.ref a), some (V.int z), none, none] _ _
      walk_at "rt"
      refine k _ _ _ hc ?_ ⟨sm.trans But.updA, ?_⟩
      · rw [List.length_map, List.length_take]; exact small1000 (by omega)
      · rw [upd_same, take_map hz]
    · rintro H1 ⟨sm, hc⟩
      rw [List.length_map, List.take_length] at hc
      walk_at "rt"
      walk_at "st"
      walk_at "ex"
      refine r_seq ?_
      refine ⟨_, rfl, c, rfl, ⟨_, sq_of hc⟩, ?_⟩
      refine r_list (K := K) (a := c) (ns.map V.int) (fun i σ H' => (∃ (z : Int) (x : Option V), σ = [some (.ref a), x, some (.ref c), some (.int z)]) ∧ H' = H1) ⟨⟨_, _, rfl⟩, rfl⟩ (fun i σ H' _ h => by rw [h.2]; exact sq_of hc) ?_ ?_
      · rintro i x σ H' hx ⟨⟨z, y, rfl⟩, rfl⟩ N k
        obtain ⟨t, ht, rfl⟩ := map_get hx
        walk_at "rt"
        exact ⟨.inr ⟨by decide, by decide⟩, k _ _ ⟨⟨_, _, rfl⟩, rfl⟩⟩
      · rintro σ H' ⟨⟨z, y, rfl⟩, rfl⟩
        walk_at "rt"
        refine ⟨by decide, fun p np => ?_⟩
        have np0 : H p = none := (sm.same nc).free np
        have ncp : c ≠ p := ne_of_none hc np
        exact q p c _ ((sm.same nc).trans (Same.new np)) np0 ⟨⟨ns, 0, 0, 0, z, upd_same, by rw [upd_ne ncp]; exact hc, by decide, by decide⟩, ncp⟩
end
end K01
namespace K01
open PySem PySem.Spec PyProof.Rows L2
local macro_rules | `(tactic| walk_at "rd") => `(tactic| simp only [start1, wipe, tAsg, gName, gSub, tVar, tC, tOp, tUn, tTest, tIfS, tRet, tRetN, tDrop, tB, tAnd, tOr, tNot, tAndV, tOrV, tNotV, tIf, tCB, tCons, tNil, tNext, tCall, tBM, tTup, tLst, rI0, rI, rEq, rNe, scal, forR_eq, forR2_eq, forS_eq, forL_eq, lcL_eq, lcR_eq, lcS_eq, rLenX, rLenS, tM1, tM0, rSplitN, rJoinN, exists_eq, rIntI, rIntB, rIntS, rStrI, rAbs, rOrd, rMin, rMax, rIxL, rIxX, rSetL, rAppend, rIxS, rSlS, rSlL, tSl, List.map_cons, List.map_nil, List.replicate_succ, List.replicate_zero, List.length_cons, List.length_nil, Nat.reduceSub, Nat.reduceAdd, Nat.zero_add, Nat.sub_self, List.getElem?_cons_zero, List.getElem?_cons_succ, List.set_cons_zero, List.set_cons_succ, List.append_nil, List.nil_append, List.cons_append, Option.some.injEq, exists_eq_left', exists_eq_left, exists_eq', exists_and_left, exists_and_right, V.int.injEq, V.str.injEq, V.bl.injEq, V.ref.injEq, List.cons.injEq, and_true, true_and, and_assoc, decide_eq_true_eq, Bool.not_eq_true', decide_eq_false_iff_not, ite_true, ite_false, if_true, if_false, Bool.not_true, Bool.not_false, Bool.false_eq_true, eq_self_iff_true, reduceIte, ne_eq, Int.reduceEq, not_false_eq_true])
local macro_rules | `(tactic| walk_at "rt") => `(tactic| try walk_at "rd")
local macro_rules | `(tactic| walk_at "st") => `(tactic| (refine r_seq ?_; walk_at "rt"))
local macro_rules | `(tactic| walk_at "hp") => `(tactic| first | assumption | exact upd_same | (rw [upd_ne (by assumption)]; walk_at "hp"))
local macro_rules | `(tactic| walk_at "ex1") => `(tactic| ((with_reducible refine Exists.intro ?w (And.intro ?hx ?_)); (case hx => first | exact sq_of (by walk_at "hp") | exact .inl (sq_of (by walk_at "hp")) | exact rfl | (show _ = some (HO.lst _); walk_at "hp"))))
local macro_rules | `(tactic| walk_at "ex") => `(tactic| repeat (first | walk_at "ex1" | walk_at "rd"))
section
variable {P : Program} {w : World} {K : PySem.W.Frag} {mg : Str → Option Value} {base : Heap}
theorem line_of {n : Nat} (h : n ≤ 16777216) : n ≤ sizeLine := by rw [PySem.sizeLine_eq]; exact h
theorem ok_pick {f f_take : Addr} {fd fd_take : FuncData} (B : Bi mg) (D : Dn K mg "_law_pick" s_pick ["store", "row"] f fd) (D_take : Dn K mg "_law_take" s_take ["store", "many"] f_take fd_take)
    (G_take : FnOk P w K mg base CX0 2 f_take fd_take ["store", "many"] spTake) : FnOk P w K mg base CX0 3 f fd ["store", "row"] spPick := by
  refine D.F.ok sc_pick (fun vs H Q E h => ?_) (fun cdv A outer s H vs Q E hr h => ?_)
  · obtain ⟨a, c, z, rfl, _⟩ := h
    rfl
  · obtain ⟨a, c, z, rfl, S, hne, hl, q⟩ := h
    refine ⟨_, (pss_cons (ps_if (pt_cmpR op_eq (pe_callB call_lenS (by rfl) B.len PySem.boot_len (pa_cons (pv 1) pa_nil)) pe_int (nomark _)) (pss_one (ps_ret pe_non)) pss_nil)
      (pss_one (ps_ret (pe_ix ix_str (pv 1) (pe_call G_take (hr.mono (by omega)) (by rfl) D_take.g D_take.F.kp D_take.b .nil pass0 (pa_cons (pv 0) (pa_cons (pe_callB call_lenS (by rfl) B.len PySem.boot_len (pa_cons (pv 1) pa_nil)) pa_nil))) (fun _ _ => rfl))))), ?_⟩
    have hz : z.cps.toList.length = z.length := rfl
    have hp : 0 < z.length := by
      rw [← hz]
      exact List.length_pos_iff.mpr hne
    walk_at "st"
    refine ⟨line_of (by omega), ite2 (fun e => absurd e (by omega)) (fun _ => ?_)⟩
    walk_at "rt"
    refine ⟨line_of (by omega), a, c, _, rfl, S, by omega, fun v H' S' b' ⟨r, e, r0, r1⟩ => ?_⟩
    subst e
    walk_at "rt"
    obtain ⟨k, hk, hk2⟩ := atI_get (xs := z.cps.toList) (i := r) r0 (by omega)
    exact ⟨line_of (by omega), k, hk, q _ _ S' b' ⟨k, List.mem_of_getElem? hk2, rfl⟩⟩
theorem ok_chance {f f_take : Addr} {fd fd_take : FuncData} (B : Bi mg) (D : Dn K mg "_law_chance" s_chance ["store", "many"] f fd) (D_take : Dn K mg "_law_take" s_take ["store", "many"] f_take fd_take)
    (G_take : FnOk P w K mg base CX0 2 f_take fd_take ["store", "many"] spTake) : FnOk P w K mg base CX0 3 f fd ["store", "many"] spChance := by
  refine D.F.ok sc_chance (fun vs H Q E h => ?_) (fun cdv A outer s H vs Q E hr h => ?_)
  · obtain ⟨a, c, z, rfl, _⟩ := h
    rfl
  · obtain ⟨a, c, m, rfl, S, hm, q⟩ := h
    refine ⟨_, (pss_one (ps_ret (pe_cmpR op_eq (pe_call G_take (hr.mono (by omega)) (by rfl) D_take.g D_take.F.kp D_take.b .nil pass0 (pa_cons (pv 0) (pa_cons (pv 1) pa_nil))) pe_int (nomark _)))), ?_⟩
    walk_at "rt"
    refine ⟨a, c, _, rfl, S, hm, fun v H' S' b' ⟨r, e, r0, r1⟩ => ?_⟩
    subst e
    walk_at "rt"
    exact q _ _ S' b' ⟨_, rfl⟩
theorem ok_number {f f_take f_chance : Addr} {fd fd_take fd_chance : FuncData} (B : Bi mg) (D : Dn K mg "_law_number" s_number ["store", "low", "high"] f fd) (D_take : Dn K mg "_law_take" s_take ["store", "many"] f_take fd_take)
    (D_chance : Dn K mg "_law_chance" s_chance ["store", "many"] f_chance fd_chance)
    (G_take : FnOk P w K mg base CX0 2 f_take fd_take ["store", "many"] spTake) (G_chance : FnOk P w K mg base CX0 3 f_chance fd_chance ["store", "many"] spChance) : FnOk P w K mg base CX0 4 f fd ["store", "low", "high"] spRange := by
  refine D.F.ok sc_number (fun vs H Q E h => ?_) (fun cdv A outer s H vs Q E hr h => ?_)
  · obtain ⟨a, c, lo, hi, rfl, _⟩ := h
    rfl
  · obtain ⟨a, c, lo, hi, rfl, S, hlh, hw, q⟩ := h
    refine ⟨_, (pss_cons (ps_set (i := 3) sc_number.nd rfl (.inl rfl) (pe_call G_take (hr.mono (by omega)) (by rfl) D_take.g D_take.F.kp D_take.b .nil pass0 (pa_cons (pv 0) (pa_cons pe_int pa_nil))))
      (pss_cons (ps_if (pt_cmpR op_eq (pv 3) pe_int (nomark _)) (pss_one (ps_ret (pv 1))) pss_nil)
      (pss_cons (ps_if (pt_cmpR op_eq (pv 3) pe_int (nomark _)) (pss_one (ps_ret (pv 2))) pss_nil)
      (pss_cons (ps_if (pt_cmpR op_eq (pv 3) pe_int (nomark _)) (pss_cons (ps_if (pt_val (pe_call G_chance (hr.mono (by omega)) (by rfl) D_chance.g D_chance.F.kp D_chance.b .nil pass0 (pa_cons (pv 0) (pa_cons pe_int pa_nil)))) (pss_one (ps_ret (pe_callB (call_minI rfl) (by rfl) B.min (by decide +kernel) (pa_cons (pe_op op_add (pv 1) pe_int) (pa_cons (pv 2) pa_nil))))) pss_nil)
      (pss_one (ps_ret (pe_callB (call_maxI rfl) (by rfl) B.max (by decide +kernel) (pa_cons (pe_op op_sub (pv 2) pe_int) (pa_cons (pv 1) pa_nil)))))) pss_nil)
      (pss_one (ps_ret (pe_op op_add (pv 1) (pe_call G_take (hr.mono (by omega)) (by rfl) D_take.g D_take.F.kp D_take.b .nil pass0 (pa_cons (pv 0) (pa_cons (pe_op op_add (pe_op op_sub (pv 2) (pv 1)) pe_int) pa_nil)))))))))), ?_⟩
    walk_at "st"
    refine ⟨a, c, _, rfl, S, by decide, fun v H1 S1 b1 ⟨r, e, r0, r1⟩ => ?_⟩
    subst e
    walk_at "st"
    refine ite2 (fun _ => q _ _ S1 b1 ⟨_, rfl, by omega, by omega⟩) (fun _ => ?_)
    walk_at "st"
    refine ite2 (fun _ => q _ _ S1 b1 ⟨_, rfl, by omega, by omega⟩) (fun _ => ?_)
    walk_at "st"
    refine ite2 (fun _ => ?_) (fun _ => ?_)
    · walk_at "st"
      refine ⟨a, c, _, rfl, S1, by decide, fun v H2 S2 b2 ⟨k, e⟩ => ?_⟩
      subst e
      walk_at "rt"
      refine ite2 (fun _ => q _ _ S2 (b1.trans b2) ⟨_, rfl, by split <;> omega, by split <;> omega⟩) (fun _ => q _ _ S2 (b1.trans b2) ⟨_, rfl, by split <;> omega, by split <;> omega⟩)
    · walk_at "rt"
      refine ⟨a, c, _, rfl, S1, by omega, fun v H2 S2 b2 ⟨k, e, k0, k1⟩ => ?_⟩
      subst e
      walk_at "rt"
      exact q _ _ S2 (b1.trans b2) ⟨_, rfl, by omega, by omega⟩
theorem ok_size {f f_take : Addr} {fd fd_take : FuncData} (B : Bi mg) (D : Dn K mg "_law_size" s_size ["store", "low", "high"] f fd) (D_take : Dn K mg "_law_take" s_take ["store", "many"] f_take fd_take)
    (G_take : FnOk P w K mg base CX0 2 f_take fd_take ["store", "many"] spTake) : FnOk P w K mg base CX0 3 f fd ["store", "low", "high"] spRange := by
  refine D.F.ok sc_size (fun vs H Q E h => ?_) (fun cdv A outer s H vs Q E hr h => ?_)
  · obtain ⟨a, c, lo, hi, rfl, _⟩ := h
    rfl
  · obtain ⟨a, c, lo, hi, rfl, S, hlh, hw, q⟩ := h
    refine ⟨_, (pss_cons (ps_set (i := 3) sc_size.nd rfl (.inl rfl) (pe_call G_take (hr.mono (by omega)) (by rfl) D_take.g D_take.F.kp D_take.b .nil pass0 (pa_cons (pv 0) (pa_cons pe_int pa_nil))))
      (pss_cons (ps_if (pt_cmpR op_lt (pv 3) pe_int (nomark _)) (pss_one (ps_ret (pv 1))) pss_nil)
      (pss_cons (ps_if (pt_cmpR op_eq (pv 3) pe_int (nomark _)) (pss_one (ps_ret (pv 2))) pss_nil)
      (pss_cons (ps_if (pt_cmpR op_lt (pv 3) pe_int (nomark _)) (pss_one (ps_ret (pe_op op_add (pv 1) (pe_call G_take (hr.mono (by omega)) (by rfl) D_take.g D_take.F.kp D_take.b .nil pass0 (pa_cons (pv 0) (pa_cons (pe_op op_add (pe_op op_sub (pv 2) (pv 1)) pe_int) pa_nil)))))) pss_nil)
      (pss_one (ps_ret (pe_op op_add (pv 1) (pe_call G_take (hr.mono (by omega)) (by rfl) D_take.g D_take.F.kp D_take.b .nil pass0 (pa_cons (pv 0) (pa_cons (pe_op op_add (pe_callB (call_minI rfl) (by rfl) B.min (by decide +kernel) (pa_cons (pe_op op_sub (pv 2) (pv 1)) (pa_cons pe_int pa_nil))) pe_int) pa_nil)))))))))), ?_⟩
    walk_at "st"
    refine ⟨a, c, _, rfl, S, by decide, fun v H1 S1 b1 ⟨r, e, r0, r1⟩ => ?_⟩
    subst e
    walk_at "st"
    refine ite2 (fun _ => q _ _ S1 b1 ⟨_, rfl, by omega, by omega⟩) (fun _ => ?_)
    walk_at "st"
    refine ite2 (fun _ => q _ _ S1 b1 ⟨_, rfl, by omega, by omega⟩) (fun _ => ?_)
    walk_at "st"
    refine ite2 (fun _ => ?_) (fun _ => ?_)
    · refine ⟨a, c, _, rfl, S1, by omega, fun v H2 S2 b2 ⟨k, e, k0, k1⟩ => ?_⟩
      subst e
      walk_at "rt"
      exact q _ _ S2 (b1.trans b2) ⟨_, rfl, by omega, by omega⟩
    · walk_at "rt"
      refine ⟨a, c, _, rfl, S1, by split <;> omega, fun v H2 S2 b2 ⟨k, e, k0, k1⟩ => ?_⟩
      subst e
      walk_at "rt"
      exact q _ _ S2 (b1.trans b2) ⟨_, rfl, by omega, by split at k1 <;> omega⟩
end
end K01
namespace K01
open PySem PySem.Spec PyProof.Rows L2
local macro_rules | `(tactic| walk_at "rd") => `(tactic| simp only [start1, wipe, tAsg, gName, gSub, tVar, tC, tOp, tUn, tTest, tIfS, tRet, tRetN, tDrop, tB, tAnd, tOr, tNot, tAndV, tOrV, tNotV, tIf, tCB, tCons, tNil, tNext, tCall, tBM, tTup, tLst, rI0, rI, rEq, rNe, scal, forR_eq, forR2_eq, forS_eq, forL_eq, lcL_eq, lcR_eq, lcS_eq, rLenX, rLenS, tM1, tM0, rSplitN, rJoinN, exists_eq, rIntI, rIntB, rIntS, rStrI, rAbs, rOrd, rMin, rMax, rIxL, rIxX, rSetL, rAppend, rIxS, rSlS, rSlL, tSl, List.map_cons, List.map_nil, List.replicate_succ, List.replicate_zero, List.length_cons, List.length_nil, Nat.reduceSub, Nat.reduceAdd, Nat.zero_add, Nat.sub_self, List.getElem?_cons_zero, List.getElem?_cons_succ, List.set_cons_zero, List.set_cons_succ, List.append_nil, List.nil_append, List.cons_append, Option.some.injEq, exists_eq_left', exists_eq_left, exists_eq', exists_and_left, exists_and_right, V.int.injEq, V.str.injEq, V.bl.injEq, V.ref.injEq, List.cons.injEq, and_true, true_and, and_assoc, decide_eq_true_eq, Bool.not_eq_true', decide_eq_false_iff_not, ite_true, ite_false, if_true, if_false, Bool.not_true, Bool.not_false, Bool.false_eq_true, eq_self_iff_true, reduceIte, ne_eq, Int.reduceEq, not_false_eq_true])
local macro_rules | `(tactic| walk_at "rt") => `(tactic| try walk_at "rd")
local macro_rules | `(tactic| walk_at "st") => `(tactic| (refine r_seq ?_; walk_at "rt"))
local macro_rules | `(tactic| walk_at "hp") => `(tactic| first | assumption | exact upd_same | (rw [upd_ne (by assumption)]; walk_at "hp"))
local macro_rules | `(tactic| walk_at "ex1") => `(tactic| ((with_reducible refine Exists.intro ?w (And.intro ?hx ?_)); (case hx => first | exact sq_of (by walk_at "hp") | exact .inl (sq_of (by walk_at "hp")) | exact rfl | (show _ = some (HO.lst _); walk_at "hp"))))
local macro_rules | `(tactic| walk_at "ex") => `(tactic| repeat (first | walk_at "ex1" | walk_at "rd"))
/-! ### data -/
inductive Dat where
  | non | bl (b : Bool) | int (i : Int) | str (s : Str) | lst (l : List Dat) | tup (l : List Dat)
mutual
def At (H : Hp) (A : Addr → Prop) : Dat → V → Prop
  | .non, v => v = .non
  | .bl b, v => v = .bl b
  | .int i, v => v = .int i
  | .str s, v => v = .str s
  | .lst l, v => ∃ a xs, v = .ref a ∧ A a ∧ H a = some (.lst xs) ∧ xs.length ≤ 1000000 ∧ AtL H A l xs
  | .tup l, v => ∃ a xs, v = .ref a ∧ A a ∧ H a = some (.tup xs) ∧ xs.length ≤ 1000000 ∧ AtL H A l xs
def AtL (H : Hp) (A : Addr → Prop) : List Dat → List V → Prop
  | [], xs => xs = []
  | d :: l, xs => ∃ v r, xs = v :: r ∧ At H A d v ∧ AtL H A l r
end
mutual
def Dat.dep : Dat → Nat
  | .lst l => depL l + 1
  | .tup l => depL l + 1
  | _ => 0
def depL : List Dat → Nat
  | [] => 0
  | d :: l => max d.dep (depL l)
end
mutual
def same : Dat → Dat → Bool
  | .non, .non => true
  | .bl a, .bl b => decide (a = b)
  | .int a, .int b => decide (a = b)
  | .str a, .str b => decide (a = b)
  | .lst l, .lst m => sameL l m
  | .tup l, .tup m => sameL l m
  | _, _ => false
def sameL : List Dat → List Dat → Bool
  | [], [] => true
  | d :: l, e :: m => same d e && sameL l m
  | _, _ => false
end
mutual
theorem same_refl : ∀ d : Dat, same d d = true
  | .non => rfl
  | .bl _ => by simp [same]
  | .int _ => by simp [same]
  | .str _ => by simp [same]
  | .lst l => by rw [same]; exact sameL_refl l
  | .tup l => by rw [same]; exact sameL_refl l
theorem sameL_refl : ∀ l : List Dat, sameL l l = true
  | [] => rfl
  | d :: l => by rw [sameL, same_refl d, sameL_refl l]; rfl
end
mutual
theorem At.mono {H H' : Hp} {A A' : Addr → Prop} (hA : ∀ p, A p → A' p) (k : ∀ p o, A p → H p = some o → H' p = some o) : ∀ (d : Dat) (v : V), At H A d v → At H' A' d v
  | .non, _, h => h
  | .bl _, _, h => h
  | .int _, _, h => h
  | .str _, _, h => h
  | .lst l, _, ⟨a, xs, e, ha, hx, hl, hr⟩ => ⟨a, xs, e, hA a ha, k a _ ha hx, hl, AtL.mono hA k l xs hr⟩
  | .tup l, _, ⟨a, xs, e, ha, hx, hl, hr⟩ => ⟨a, xs, e, hA a ha, k a _ ha hx, hl, AtL.mono hA k l xs hr⟩
theorem AtL.mono {H H' : Hp} {A A' : Addr → Prop} (hA : ∀ p, A p → A' p) (k : ∀ p o, A p → H p = some o → H' p = some o) : ∀ (l : List Dat) (xs : List V), AtL H A l xs → AtL H' A' l xs
  | [], _, h => h
  | d :: l, _, ⟨v, r, e, h1, h2⟩ => ⟨v, r, e, At.mono hA k d v h1, AtL.mono hA k l r h2⟩
end
theorem AtL.length {H : Hp} {A : Addr → Prop} : ∀ (l : List Dat) (xs : List V), AtL H A l xs → xs.length = l.length
  | [], _, h => by rw [show _ = [] from h]; rfl
  | d :: l, _, ⟨v, r, e, h1, h2⟩ => by rw [e, List.length_cons, List.length_cons, AtL.length l r h2]
theorem AtL.get {H : Hp} {A : Addr → Prop} : ∀ (l : List Dat) (xs : List V) (i : Nat) (d : Dat), AtL H A l xs → l[i]? = some d → ∃ v, xs[i]? = some v ∧ At H A d v
  | [], _, _, _, _, h => by simp at h
  | d :: l, _, 0, e, ⟨v, r, ex, h1, h2⟩, h => by
    subst ex
    cases h
    exact ⟨v, rfl, h1⟩
  | d :: l, _, i + 1, e, ⟨v, r, ex, h1, h2⟩, h => by
    subst ex
    exact AtL.get l r i e h2 h
theorem AtL.snoc {H : Hp} {A : Addr → Prop} : ∀ (l : List Dat) (xs : List V) (d : Dat) (v : V), AtL H A l xs → At H A d v → AtL H A (l ++ [d]) (xs ++ [v])
  | [], _, d, v, h, h2 => by rw [show _ = [] from h]; exact ⟨v, [], rfl, h2, rfl⟩
  | e :: l, _, d, v, ⟨w, r, ex, h1, h2⟩, h3 => by rw [ex]; exact ⟨w, r ++ [v], rfl, h1, AtL.snoc l r d v h2 h3⟩
theorem dep_get : ∀ (l : List Dat) (i : Nat) (d : Dat), l[i]? = some d → d.dep ≤ depL l
  | [], _, _, h => by simp at h
  | e :: l, 0, d, h => by cases h; rw [depL]; exact Nat.le_max_left _ _
  | e :: l, i + 1, d, h => by rw [depL]; exact Nat.le_trans (dep_get l i d h) (Nat.le_max_right _ _)
/-! ### isinstance of data -/
def isBool : Dat → Bool | .bl _ => true | _ => false
def isInt : Dat → Bool | .bl _ => true | .int _ => true | _ => false
def isStr : Dat → Bool | .str _ => true | _ => false
def isLst : Dat → Bool | .lst _ => true | _ => false
def isTup : Dat → Bool | .tup _ => true | _ => false
def tyOf : Dat → String | .non => "NoneType" | .bl _ => "bool" | .int _ => "int" | .str _ => "str" | .lst _ => "list" | .tup _ => "tuple"
theorem tyx {K : PySem.W.Frag} {H : Hp} {A : Addr → Prop} : ∀ {d : Dat} {v : V}, At H A d v → TyX K H v (.type (tyOf d))
  | .non, _, h => by rw [show _ = V.non from h]; exact .base .non
  | .bl b, _, h => by rw [show _ = V.bl b from h]; exact .base (.bl b)
  | .int b, _, h => by rw [show _ = V.int b from h]; exact .base (.int b)
  | .str b, _, h => by rw [show _ = V.str b from h]; exact .base (.str b)
  | .lst l, _, ⟨a, xs, e, _, hx, _⟩ => by subst e; exact .base (.lst hx)
  | .tup l, _, ⟨a, xs, e, _, hx, _⟩ => by subst e; exact .base (.tup hx)
def isR (T : String) (p : Dat → Bool) : List V → Hp → VK → Prop := fun xs H Q => ∃ x, xs = [x, .ty T] ∧ ∃ A d, At H A d x ∧ Q (.bl (p d)) H
theorem call_is {X : Cx} (T : String) (p : Dat → Bool) (h : ∀ d, kitB (tyOf d) T = some (p d)) : CallR X (.builtin "isinstance") (isR T p) := callR_mono call_isi fun xs H Q ⟨x, e, A, d, ha, q⟩ =>
  ⟨x, .ty T, _, _, p d, e, .ty T, tyx ha, kit_ty (h d), q⟩
theorem call_is_bool {X : Cx} : CallR X (.builtin "isinstance") (isR "bool" isBool) := call_is _ _ fun d => by cases d <;> (simp only [tyOf, isBool]; decide +kernel)
theorem call_is_int {X : Cx} : CallR X (.builtin "isinstance") (isR "int" isInt) := call_is _ _ fun d => by cases d <;> (simp only [tyOf, isInt]; decide +kernel)
theorem call_is_str {X : Cx} : CallR X (.builtin "isinstance") (isR "str" isStr) := call_is _ _ fun d => by cases d <;> (simp only [tyOf, isStr]; decide +kernel)
theorem call_is_dict {X : Cx} : CallR X (.builtin "isinstance") (isR "dict" fun _ => false) := call_is _ _ fun d => by cases d <;> (simp only [tyOf]; decide +kernel)
theorem call_is_list {X : Cx} : CallR X (.builtin "isinstance") (isR "list" isLst) := call_is _ _ fun d => by cases d <;> (simp only [tyOf, isLst]; decide +kernel)
theorem call_is_tuple {X : Cx} : CallR X (.builtin "isinstance") (isR "tuple" isTup) := call_is _ _ fun d => by cases d <;> (simp only [tyOf, isTup]; decide +kernel)
end K01
namespace K01
open PySem PySem.Spec PyProof.Rows L2
local macro_rules | `(tactic| walk_at "rd") => `(tactic| simp only [start1, wipe, tAsg, gName, gSub, tVar, tC, tOp, tUn, tTest, tIfS, tRet, tRetN, tDrop, tB, tAnd, tOr, tNot, tAndV, tOrV, tNotV, tIf, tCB, tCons, tNil, tNext, tCall, tBM, tTup, tLst, rI0, rI, rEq, rNe, scal, forR_eq, forR2_eq, forS_eq, forL_eq, lcL_eq, lcR_eq, lcS_eq, rLenX, rLenS, tM1, tM0, rSplitN, rJoinN, exists_eq, rIntI, rIntB, rIntS, rStrI, rAbs, rOrd, rMin, rMax, rIxL, rIxX, rSetL, rAppend, rIxS, rSlS, rSlL, tSl, List.map_cons, List.map_nil, List.replicate_succ, List.replicate_zero, List.length_cons, List.length_nil, Nat.reduceSub, Nat.reduceAdd, Nat.zero_add, Nat.sub_self, List.getElem?_cons_zero, List.getElem?_cons_succ, List.set_cons_zero, List.set_cons_succ, List.append_nil, List.nil_append, List.cons_append, Option.some.injEq, exists_eq_left', exists_eq_left, exists_eq', exists_and_left, exists_and_right, V.int.injEq, V.str.injEq, V.bl.injEq, V.ref.injEq, List.cons.injEq, and_true, true_and, and_assoc, decide_eq_true_eq, Bool.not_eq_true', decide_eq_false_iff_not, ite_true, ite_false, if_true, if_false, Bool.not_true, Bool.not_false, Bool.false_eq_true, eq_self_iff_true, reduceIte, ne_eq, Int.reduceEq, not_false_eq_true])
local macro_rules | `(tactic| walk_at "rt") => `(tactic| try walk_at "rd")
local macro_rules | `(tactic| walk_at "st") => `(tactic| (refine r_seq ?_; walk_at "rt"))
local macro_rules | `(tactic| walk_at "hp") => `(tactic| first | assumption | exact upd_same | (rw [upd_ne (by assumption)]; walk_at "hp"))
local macro_rules | `(tactic| walk_at "ex1") => `(tactic| ((with_reducible refine Exists.intro ?w (And.intro ?hx ?_)); (case hx => first | exact sq_of (by walk_at "hp") | exact .inl (sq_of (by walk_at "hp")) | exact rfl | (show _ = some (HO.lst _); walk_at "hp"))))
local macro_rules | `(tactic| walk_at "ex") => `(tactic| repeat (first | walk_at "ex1" | walk_at "rd"))
abbrev s_same : Stmt := topS 14
theorem sc_same : FnScope ["one", "two"] ["one", "two"] (defScope s_same) := ⟨rfl, rfl, rfl, by decide +kernel, rfl, by decide +kernel, by decide +kernel⟩
abbrev s_samerows : Stmt := topS 15
theorem sc_samerows : FnScope ["one", "two", "k"] ["one", "two"] (defScope s_samerows) := ⟨rfl, rfl, rfl, by decide +kernel, rfl, by decide +kernel, by decide +kernel⟩
abbrev s_samedicts : Stmt := topS 16
theorem sc_samedicts : FnScope ["one", "two", "key"] ["one", "two"] (defScope s_samedicts) := ⟨rfl, rfl, rfl, by decide +kernel, rfl, by decide +kernel, by decide +kernel⟩
abbrev s_copy : Stmt := topS 17
theorem sc_copy : FnScope ["thing", "copied", "key", "part"] ["thing"] (defScope s_copy) := ⟨rfl, rfl, rfl, by decide +kernel, rfl, by decide +kernel, by decide +kernel⟩
def spSame (n : Nat) : Sp := fun vs H Q _ => ∃ (x y : V) (A B : Addr → Prop) (d e : Dat), vs = [x, y] ∧ At H A d x ∧ At H B e y ∧ d.dep ≤ n ∧ Q (.bl (same d e)) H
def spRows : Nat → Sp
  | 0 => fun _ _ _ _ => False
  | n + 1 => fun vs H Q _ => ∃ (x y : V) (A B : Addr → Prop) (l m : List Dat), vs = [x, y] ∧ ((At H A (.lst l) x ∧ At H B (.lst m) y) ∨ (At H A (.tup l) x ∧ At H B (.tup m) y)) ∧ depL l ≤ n ∧ Q (.bl (sameL l m)) H
section
variable {P : Program} {w : World} {K : PySem.W.Frag} {mg : Str → Option Value} {base : Heap}
theorem ok_same {f fR : Addr} {fd fdR : FuncData} (B : Bi mg) (D : Dn K mg "_law_same" s_same ["one", "two"] f fd) (D_samerows : Dn K mg "_law_same_rows" s_samerows ["one", "two"] fR fdR) (n k : Nat)
    (G_samerows : FnOk P w K mg base CX0 (k + 1) fR fdR ["one", "two"] (spRows n)) : FnOk P w K mg base CX0 (k + 2) f fd ["one", "two"] (spSame n) := by
  refine D.F.ok sc_same (fun vs H Q E h => ?_) (fun cdv A outer s H vs Q E hr h => ?_)
  · obtain ⟨x, y, A, B, d, e, rfl, _⟩ := h
    rfl
  · obtain ⟨x, y, A1, A2, d, e, rfl, hd, he, hn, q⟩ := h
    have hr1 : Room (k + 1) _ := hr
    have hd' := hd
    have he' := he
    refine ⟨_, (pss_cons (ps_if (PW.pt (pw_or (pt_cmpR op_isN (pv 0) pe_non (nomark _)) (pw_or1 (pt_cmpR op_isN (pv 1) pe_non (nomark _))))) (pss_one (ps_ret (pe_and (pe_cmpR op_isN (pv 0) pe_non (nomark _)) (pe_one (pe_cmpR op_isN (pv 1) pe_non (nomark _)))))) pss_nil)
      (pss_cons (ps_if (PW.pt (pw_or (pt_val (pe_callB call_is_bool (by rfl) B.isinstance (by decide +kernel) (pa_cons (pv 0) (pa_cons (pe_bltn (v := .ty "bool") (by rfl) B.bool_ (by decide +kernel) rfl) pa_nil)))) (pw_or1 (pt_val (pe_callB call_is_bool (by rfl) B.isinstance (by decide +kernel) (pa_cons (pv 1) (pa_cons (pe_bltn (v := .ty "bool") (by rfl) B.bool_ (by decide +kernel) rfl) pa_nil))))))) (pss_one (ps_ret (pe_and (pe_callB call_is_bool (by rfl) B.isinstance (by decide +kernel) (pa_cons (pv 0) (pa_cons (pe_bltn (v := .ty "bool") (by rfl) B.bool_ (by decide +kernel) rfl) pa_nil))) (pe_and (pe_callB call_is_bool (by rfl) B.isinstance (by decide +kernel) (pa_cons (pv 1) (pa_cons (pe_bltn (v := .ty "bool") (by rfl) B.bool_ (by decide +kernel) rfl) pa_nil))) (pe_one (pe_cmpR op_eq (pv 0) (pv 1) (nomark _))))))) pss_nil)
      (pss_cons (ps_if (PW.pt (pw_or (pt_val (pe_callB call_is_int (by rfl) B.isinstance (by decide +kernel) (pa_cons (pv 0) (pa_cons (pe_bltn (v := .ty "int") (by rfl) B.int_ (by decide +kernel) rfl) pa_nil)))) (pw_or1 (pt_val (pe_callB call_is_int (by rfl) B.isinstance (by decide +kernel) (pa_cons (pv 1) (pa_cons (pe_bltn (v := .ty "int") (by rfl) B.int_ (by decide +kernel) rfl) pa_nil))))))) (pss_one (ps_ret (pe_and (pe_callB call_is_int (by rfl) B.isinstance (by decide +kernel) (pa_cons (pv 0) (pa_cons (pe_bltn (v := .ty "int") (by rfl) B.int_ (by decide +kernel) rfl) pa_nil))) (pe_and (pe_callB call_is_int (by rfl) B.isinstance (by decide +kernel) (pa_cons (pv 1) (pa_cons (pe_bltn (v := .ty "int") (by rfl) B.int_ (by decide +kernel) rfl) pa_nil))) (pe_one (pe_cmpR op_eq (pv 0) (pv 1) (nomark _))))))) pss_nil)
      (pss_cons (ps_if (PW.pt (pw_or (pt_val (pe_callB call_is_str (by rfl) B.isinstance (by decide +kernel) (pa_cons (pv 0) (pa_cons (pe_bltn (v := .ty "str") (by rfl) B.str_ (by decide +kernel) rfl) pa_nil)))) (pw_or1 (pt_val (pe_callB call_is_str (by rfl) B.isinstance (by decide +kernel) (pa_cons (pv 1) (pa_cons (pe_bltn (v := .ty "str") (by rfl) B.str_ (by decide +kernel) rfl) pa_nil))))))) (pss_one (ps_ret (pe_and (pe_callB call_is_str (by rfl) B.isinstance (by decide +kernel) (pa_cons (pv 0) (pa_cons (pe_bltn (v := .ty "str") (by rfl) B.str_ (by decide +kernel) rfl) pa_nil))) (pe_and (pe_callB call_is_str (by rfl) B.isinstance (by decide +kernel) (pa_cons (pv 1) (pa_cons (pe_bltn (v := .ty "str") (by rfl) B.str_ (by decide +kernel) rfl) pa_nil))) (pe_one (pe_cmpR op_eq (pv 0) (pv 1) (nomark _))))))) pss_nil)
      (pss_cons (ps_if (PW.pt (pw_or (pt_val (pe_callB call_is_dict (by rfl) B.isinstance (by decide +kernel) (pa_cons (pv 0) (pa_cons (pe_bltn (v := .ty "dict") (by rfl) B.dict_ (by decide +kernel) rfl) pa_nil)))) (pw_or1 (pt_val (pe_callB call_is_dict (by rfl) B.isinstance (by decide +kernel) (pa_cons (pv 1) (pa_cons (pe_bltn (v := .ty "dict") (by rfl) B.dict_ (by decide +kernel) rfl) pa_nil))))))) (pss_one ps_never) pss_nil)
      (pss_cons (ps_if (PW.pt (pw_or (PW.pt (pw_and (pt_val (pe_callB call_is_list (by rfl) B.isinstance (by decide +kernel) (pa_cons (pv 0) (pa_cons (pe_bltn (v := .ty "list") (by rfl) B.list_ (by decide +kernel) rfl) pa_nil)))) (pw_and1 (pt_val (pe_callB call_is_list (by rfl) B.isinstance (by decide +kernel) (pa_cons (pv 1) (pa_cons (pe_bltn (v := .ty "list") (by rfl) B.list_ (by decide +kernel) rfl) pa_nil))))))) (pw_or1 (PW.pt (pw_and (pt_val (pe_callB call_is_tuple (by rfl) B.isinstance (by decide +kernel) (pa_cons (pv 0) (pa_cons (pe_bltn (v := .ty "tuple") (by rfl) B.tuple_ (by decide +kernel) rfl) pa_nil)))) (pw_and1 (pt_val (pe_callB call_is_tuple (by rfl) B.isinstance (by decide +kernel) (pa_cons (pv 1) (pa_cons (pe_bltn (v := .ty "tuple") (by rfl) B.tuple_ (by decide +kernel) rfl) pa_nil)))))))))) (pss_one (ps_ret (pe_call G_samerows (hr.mono (by omega)) (by rfl) D_samerows.g D_samerows.F.kp D_samerows.b .nil pass0 (pa_cons (pv 0) (pa_cons (pv 1) pa_nil))))) pss_nil)
      (pss_one (ps_ret pe_bl)))))))), ?_⟩
    rcases d with _ | b | i | z | l | l <;> rcases e with _ | b' | i' | z' | l' | l'
    all_goals simp only [At] at hd he
    all_goals (first | subst hd | (obtain ⟨a, xs, rfl, hd⟩ := hd))
    all_goals (first | subst he | (obtain ⟨a', ys, rfl, he⟩ := he))
    all_goals (repeat (first | (with_reducible refine Exists.intro _ (Exists.intro _ (And.intro hd' ?_))) | (with_reducible refine Exists.intro _ (Exists.intro _ (And.intro he' ?_))) | (with_reducible refine And.intro (Exists.intro _ (Exists.intro _ hd')) ?_) | (with_reducible refine And.intro (Exists.intro _ (Exists.intro _ he')) ?_) | simp only [isR, isBool, isInt, isStr, isLst, isTup, reduceCtorEq, decide_false, decide_true, Bool.or_true, Bool.and_true, Bool.false_and, Bool.true_and] | walk_at "rd" | (with_reducible refine r_seq ?_)))
    all_goals (first | exact q | (simp only [same, reduceCtorEq] at q; exact q) | skip)
    · cases n with
      | zero => rw [Dat.dep] at hn; omega
      | succ n => exact ⟨_, _, A1, A2, l, l', rfl, .inl ⟨hd', he'⟩, by rw [Dat.dep] at hn; omega, by rw [same] at q; exact q⟩
    · cases n with
      | zero => rw [Dat.dep] at hn; omega
      | succ n => exact ⟨_, _, A1, A2, l, l', rfl, .inr ⟨hd', he'⟩, by rw [Dat.dep] at hn; omega, by rw [same] at q; exact q⟩
end
theorem sameL_len : ∀ (l m : List Dat), sameL l m = true → l.length = m.length
  | [], [], _ => rfl
  | d :: l, e :: m, h => by
    rw [sameL, Bool.and_eq_true] at h
    rw [List.length_cons, List.length_cons, sameL_len l m h.2]
  | [], _ :: _, h => by cases h
  | _ :: _, [], h => by cases h
theorem sameL_at : ∀ (l m : List Dat) (i : Nat) (d e : Dat), l[i]? = some d → m[i]? = some e → same d e = false → sameL l m = false
  | d :: l, e :: m, 0, _, _, h1, h2, h => by
    cases h1; cases h2
    rw [sameL, h]; rfl
  | d :: l, e :: m, i + 1, _, _, h1, h2, h => by
    rw [sameL, sameL_at l m i _ _ h1 h2 h, Bool.and_false]
  | [], _, _, _, _, h1, _, _ => by simp at h1
  | _ :: _, [], _, _, _, _, h2, _ => by simp at h2
theorem sameL_all : ∀ (l m : List Dat), l.length = m.length → (∀ (i : Nat) (d e : Dat), l[i]? = some d → m[i]? = some e → same d e = true) → sameL l m = true
  | [], [], _, _ => rfl
  | d :: l, e :: m, hl, h => by
    rw [sameL, h 0 d e rfl rfl, sameL_all l m (by simpa using hl) fun i d e h1 h2 => h (i + 1) d e h1 h2]
    rfl
  | [], _ :: _, h, _ => by simp at h
  | _ :: _, [], h, _ => by simp at h
end K01
namespace K01
open PySem PySem.Spec PyProof.Rows L2
local macro_rules | `(tactic| walk_at "rd") => `(tactic| simp only [start1, wipe, isR, isBool, isInt, isStr, isLst, isTup, tAsg, gName, gSub, tVar, tC, tOp, tUn, tTest, tIfS, tRet, tRetN, tDrop, tB, tAnd, tOr, tNot, tAndV, tOrV, tNotV, tIf, tCB, tCons, tNil, tNext, tCall, tBM, tTup, tLst, rI0, rI, rEq, rNe, scal, forR_eq, forR2_eq, forS_eq, forL_eq, lcL_eq, lcR_eq, lcS_eq, rLenX, rLenS, tM1, tM0, rSplitN, rJoinN, exists_eq, rIntI, rIntB, rIntS, rStrI, rAbs, rOrd, rMin, rMax, rIxL, rIxX, rSetL, rAppend, rIxS, rSlS, rSlL, tSl, List.map_cons, List.map_nil, List.replicate_succ, List.replicate_zero, List.length_cons, List.length_nil, Nat.reduceSub, Nat.reduceAdd, Nat.zero_add, Nat.sub_self, List.getElem?_cons_zero, List.getElem?_cons_succ, List.set_cons_zero, List.set_cons_succ, List.append_nil, List.nil_append, List.cons_append, Option.some.injEq, exists_eq_left', exists_eq_left, exists_eq', exists_and_left, exists_and_right, V.int.injEq, V.str.injEq, V.bl.injEq, V.ref.injEq, List.cons.injEq, and_true, true_and, and_assoc, decide_eq_true_eq, Bool.not_eq_true', decide_eq_false_iff_not, ite_true, ite_false, if_true, if_false, Bool.not_true, Bool.not_false, Bool.false_eq_true, eq_self_iff_true, reduceIte, ne_eq, Int.reduceEq, not_false_eq_true])
local macro_rules | `(tactic| walk_at "rt") => `(tactic| try walk_at "rd")
local macro_rules | `(tactic| walk_at "st") => `(tactic| (refine r_seq ?_; walk_at "rt"))
local macro_rules | `(tactic| walk_at "hp") => `(tactic| first | assumption | exact upd_same | (rw [upd_ne (by assumption)]; walk_at "hp"))
local macro_rules | `(tactic| walk_at "ex1") => `(tactic| ((with_reducible refine Exists.intro ?w (And.intro ?hx ?_)); (case hx => first | exact sq_of (by walk_at "hp") | exact .inl (sq_of (by walk_at "hp")) | exact rfl | (show _ = some (HO.lst _); walk_at "hp"))))
local macro_rules | `(tactic| walk_at "ex") => `(tactic| repeat (first | walk_at "ex1" | walk_at "rd"))
section
variable {P : Program} {w : World} {K : PySem.W.Frag} {mg : Str → Option Value} {base : Heap}
/-- what a list and a tuple have in common -/
def SqX (K : PySem.W.Frag) (H : Hp) (a : Addr) (xs : List V) : Prop := SqL K H a xs ∨ SqT K H a xs
theorem ok_rows0 {fR : Addr} {fdR : FuncData} (D : Dn K mg "_law_same_rows" s_samerows ["one", "two"] fR fdR) : FnOk P w K mg base CX0 1 fR fdR ["one", "two"] (spRows 0) :=
  D.F.ok sc_samerows (fun vs H Q E h => h.elim) (fun cdv A outer s H vs Q E hr h => h.elim)
theorem ok_rows {f fR : Addr} {fd fdR : FuncData} (B : Bi mg) (D_same : Dn K mg "_law_same" s_same ["one", "two"] f fd) (D : Dn K mg "_law_same_rows" s_samerows ["one", "two"] fR fdR) (n k : Nat)
    (G_same : FnOk P w K mg base CX0 (k + 1) f fd ["one", "two"] (spSame n)) : FnOk P w K mg base CX0 (k + 2) fR fdR ["one", "two"] (spRows (n + 1)) := by
  refine D.F.ok sc_samerows (fun vs H Q E h => ?_) (fun cdv A outer s H vs Q E hr h => ?_)
  · obtain ⟨x, y, A, B, l, m, rfl, _⟩ := h
    rfl
  · obtain ⟨x, y, A1, A2, l, m, rfl, hx, hn, q⟩ := h
    obtain ⟨a, xs, b, ys, rfl, rfl, ha, hb, hla, hlb, La, Lb⟩ : ∃ a xs b ys, x = .ref a ∧ y = .ref b ∧ SqX K H a xs ∧ SqX K H b ys ∧ xs.length ≤ 1000000 ∧ ys.length ≤ 1000000 ∧ AtL H A1 l xs ∧ AtL H A2 m ys := by
      rcases hx with ⟨⟨a, xs, e, _, h1, h2, h3⟩, b, ys, e', _, h1', h2', h3'⟩ | ⟨⟨a, xs, e, _, h1, h2, h3⟩, b, ys, e', _, h1', h2', h3'⟩
      · exact ⟨a, xs, b, ys, e, e', .inl (sq_of h1), .inl (sq_of h1'), h2, h2', h3, h3'⟩
      · exact ⟨a, xs, b, ys, e, e', .inr (.inl (.inl h1)), .inr (.inl (.inl h1')), h2, h2', h3, h3'⟩
    have ela := La.length
    have elb := Lb.length
    refine ⟨_, (pss_cons (ps_if (pt_cmpR op_ne (pe_callB (call_lenXK (K := K)) (by rfl) B.len PySem.boot_len (pa_cons (pv 0) pa_nil)) (pe_callB (call_lenXK (K := K)) (by rfl) B.len PySem.boot_len (pa_cons (pv 1) pa_nil)) (nomark _)) (pss_one (ps_ret pe_bl)) pss_nil)
      (pss_cons (ps_for PassesOwn.never rfl (pi_range1 (by rfl) B.range (pa_cons (pe_callB (call_lenXK (K := K)) (by rfl) B.len PySem.boot_len (pa_cons (pv 0) pa_nil)) pa_nil)) (pg_name (i := 2) sc_samerows.nd rfl (.inl rfl)) (pss_one (ps_if (pt_not (pt_val (pe_call G_same (hr.mono (by omega)) (by rfl) D_same.g D_same.F.kp D_same.b .nil pass0 (pa_cons (pe_ix (ix_sxK (K := K)) (pv 0) (pv 2) (fun _ _ => rfl)) (pa_cons (pe_ix (ix_sxK (K := K)) (pv 1) (pv 2) (fun _ _ => rfl)) pa_nil))))) (pss_one (ps_ret pe_bl)) pss_nil)))
      (pss_one (ps_ret pe_bl)))), ?_⟩
    walk_at "st"
    refine ⟨_, ha, _, hb, ite2 (fun hne => ?_) (fun heq => ?_)⟩
    · have hs : sameL l m = false := by
        cases e : sameL l m with
        | false => rfl
        | true => exact absurd (sameL_len l m e) (by omega)
      rw [hs] at q
      exact q
    walk_at "st"
    refine ⟨_, ha, by omega, by omega, ?_⟩
    have gl : ∀ i : Nat, i < l.length → ∃ d, l[i]? = some d := fun i h => ⟨_, List.getElem?_eq_getElem h⟩
    refine r_range (fun i σ H' => (∃ x : Option V, σ = [some (.ref a), some (.ref b), x]) ∧ H' = H ∧ ∀ (j : Nat) (d e : Dat), j < i → l[j]? = some d → m[j]? = some e → same d e = true) ⟨⟨_, rfl⟩, rfl, fun j _ _ h => absurd h (Nat.not_lt_zero _)⟩ ?_ ?_
    · rintro i σ H' hi ⟨⟨x, rfl⟩, rfl, hall⟩ N k
      have hi' : i < xs.length := by omega
      obtain ⟨d, hd⟩ : ∃ d, l[i]? = some d := ⟨_, List.getElem?_eq_getElem (by omega)⟩
      obtain ⟨e, he⟩ : ∃ e, m[i]? = some e := ⟨_, List.getElem?_eq_getElem (by omega)⟩
      obtain ⟨v, hv, av⟩ := AtL.get l xs i d La hd
      obtain ⟨u, hu, au⟩ := AtL.get m ys i e Lb he
      have a1 : atI xs (0 + (i : Int)) = some v := by rw [Int.zero_add]; exact atI_nat hv
      have a2 : atI ys (0 + (i : Int)) = some u := by rw [Int.zero_add]; exact atI_nat hu
      walk_at "rd"
      refine ⟨_, ha, _, a1, _, hb, _, a2, ?_⟩
      refine ⟨v, u, A1, A2, d, e, rfl, av, au, Nat.le_trans (dep_get l i d hd) hn, ?_⟩
      walk_at "rd"
      refine ite2 (fun hf => ?_) (fun ht => k _ _ ⟨⟨_, rfl⟩, rfl, fun j d' e' hj h1 h2 => ?_⟩)
      · rw [sameL_at l m i d e hd he hf] at q
        exact q
      · by_cases hji : j = i
        · subst hji
          rw [hd] at h1
          rw [he] at h2
          cases h1
          cases h2
          cases e : same d e with
          | true => rfl
          | false => exact absurd e ht
        · exact hall j d' e' (by omega) h1 h2
    · rintro σ H' ⟨⟨x, rfl⟩, rfl, hall⟩
      walk_at "rd"
      have hs : sameL l m = true := sameL_all l m (by omega) fun i d e h1 h2 => hall i d e (by have := lt_of_get h1; omega) h1 h2
      rw [hs] at q
      exact q
theorem same_all {f fR : Addr} {fd fdR : FuncData} (B : Bi mg) (D : Dn K mg "_law_same" s_same ["one", "two"] f fd) (DR : Dn K mg "_law_same_rows" s_samerows ["one", "two"] fR fdR) : ∀ n : Nat, FnOk P w K mg base CX0 (2 * n + 2) f fd ["one", "two"] (spSame n)
  | 0 => ok_same B D DR 0 0 (ok_rows0 DR)
  | n + 1 => ok_same B D DR (n + 1) (2 * n + 2) (ok_rows B D DR n (2 * n + 1) (same_all B D DR n))
end
mutual
def noTup : Dat → Prop
  | .tup _ => False
  | .lst l => noTupL l
  | _ => True
def noTupL : List Dat → Prop
  | [] => True
  | d :: l => noTup d ∧ noTupL l
end
theorem noTup_get : ∀ (l : List Dat) (i : Nat) (d : Dat), noTupL l → l[i]? = some d → noTup d
  | [], _, _, _, h => by simp at h
  | e :: l, 0, d, ⟨h1, _⟩, h => by cases h; exact h1
  | e :: l, i + 1, d, ⟨_, h2⟩, h => noTup_get l i d h2 h
def spCopy : Nat → Sp
  | 0 => fun _ _ _ _ => False
  | n + 1 => fun vs H Q _ => ∃ (x : V) (A : Addr → Prop) (d : Dat), vs = [x] ∧ At H A d x ∧ noTup d ∧ d.dep ≤ n ∧ ∀ v H', Same H H' → At H' (fun p => H p = none) d v → Q v H'
section
variable {P : Program} {w : World} {K : PySem.W.Frag} {mg : Str → Option Value} {base : Heap}
theorem ok_copy0 {f : Addr} {fd : FuncData} (D : Dn K mg "_law_copy" s_copy ["thing"] f fd) : FnOk P w K mg base CX0 1 f fd ["thing"] (spCopy 0) :=
  D.F.ok sc_copy (fun vs H Q E h => h.elim) (fun cdv A outer s H vs Q E hr h => h.elim)
set_option linter.unusedVariables false in
theorem ok_copy {f : Addr} {fd : FuncData} (B : Bi mg) (D : Dn K mg "_law_copy" s_copy ["thing"] f fd) (D_copy : Dn K mg "_law_copy" s_copy ["thing"] f fd) (n k : Nat)
    (G_copy : FnOk P w K mg base CX0 (k + 1) f fd ["thing"] (spCopy n)) : FnOk P w K mg base CX0 (k + 2) f fd ["thing"] (spCopy (n + 1)) := by
  refine D.F.ok sc_copy (fun vs H Q E h => ?_) (fun cdv A outer s H vs Q E hr h => ?_)
  · obtain ⟨x, A, d, rfl, _⟩ := h
    rfl
  · obtain ⟨x, A1, d, rfl, hd, hnt, hn, q⟩ := h
    refine ⟨_, (pss_cons (ps_if (pt_val (pe_callB call_is_list (by rfl) B.isinstance (by decide +kernel) (pa_cons (pv 0) (pa_cons (pe_bltn (v := .ty "list") (by rfl) B.list_ (by decide +kernel) rfl) pa_nil)))) (pss_one (ps_ret (pe_lc (own := [("part", 3)]) (g := gName 3) (tt := tYes) (by rfl) sc_copy.nd (pi_listK (K := K) (pv 0)) (blkOk_by (own := [("part", 3)]) (N := ["thing", "copied", "key", "part"]) (sc := defScope s_copy) (by decide +kernel)) (fun _ _ _ _ _ => pg_name (i := 3) sc_copy.nd rfl (Or.inl rfl)) (fun _ _ _ _ _ => pts_nil) (fun _ _ _ _ _ => (pe_call G_copy (hr.mono (by omega)) (by rfl) D_copy.g D_copy.F.kp D_copy.b .nil pass0 (pa_cons (pv 3) pa_nil)))))) pss_nil)
      (pss_cons (ps_if (pt_val (pe_callB call_is_tuple (by rfl) B.isinstance (by decide +kernel) (pa_cons (pv 0) (pa_cons (pe_bltn (v := .ty "tuple") (by rfl) B.tuple_ (by decide +kernel) rfl) pa_nil)))) (pss_one ps_never) pss_nil)
      (pss_cons (ps_if (pt_val (pe_callB call_is_dict (by rfl) B.isinstance (by decide +kernel) (pa_cons (pv 0) (pa_cons (pe_bltn (v := .ty "dict") (by rfl) B.dict_ (by decide +kernel) rfl) pa_nil)))) (pss_cons ps_never
      (pss_cons ps_never
      (pss_one ps_never))) pss_nil)
      (pss_one (ps_ret (pv 0)))))), ?_⟩
    have hd' := hd
    rcases d with _ | b | i | z | l | l
    case tup => exact hnt.elim
    case lst =>
      obtain ⟨a, xs, rfl, _, hx, hl, La⟩ := hd
      have el := La.length
      walk_at "st"
      refine ⟨A1, _, hd', ?_⟩
      walk_at "rd"
      refine ⟨⟨_, sq_of hx⟩, fun Dd nD => ?_⟩
      refine r_lcL (K := K) xs (fun i H' => But Dd H H' ∧ ∃ ys, H' Dd = some (.lst ys) ∧ AtL H' (fun p => H p = none ∧ p ≠ Dd) (l.take i) ys) (fun _ => rfl) ⟨But.updA, [], upd_same, rfl⟩ (fun i H' _ h => (h.1.same nD).seq (sq_of hx)) ?_ ?_
      · rintro i y H' hy ⟨bt, ys, hD, L⟩ N kk
        have hi : i < l.length := by have := lt_of_get hy; omega
        obtain ⟨d, hdi⟩ : ∃ d, l[i]? = some d := ⟨_, List.getElem?_eq_getElem hi⟩
        obtain ⟨v, hv, av⟩ := AtL.get l xs i d La hdi
        rw [hy] at hv
        cases hv
        have hdep := dep_get l i d hdi
        rw [Dat.dep] at hn
        walk_at "rt"
        cases n with
        | zero => omega
        | succ n =>
          have sm0 := bt.same nD
          refine ⟨y, A1, d, rfl, At.mono (fun _ h => h) (fun p o _ h => sm0 p o h) d y av, noTup_get l i d hnt hdi, by omega, fun v H2 sm a2 => ?_⟩
          have ey : ys.length ≤ 1000000 := by
            have := L.length
            rw [List.length_take] at this
            omega
          refine kk v H2 ys (sm _ _ hD) (Nat.lt_of_le_of_lt ey (by rw [PySem.sizeLine_eq]; decide)) ⟨bt.trans (But.trans (But.of sm) But.updA), _, upd_same, ?_⟩
          rw [List.take_add_one, hdi]
          refine AtL.snoc _ _ d v ?_ ?_
          · exact AtL.mono (fun _ h => h) (fun p o hp h => by rw [upd_ne hp.2]; exact sm p o h) _ _ L
          · have ne : ∀ p, H' p = none → p ≠ Dd := fun p hp e => by rw [e, hD] at hp; cases hp
            exact At.mono (A := fun p => H' p = none) (fun p hp => ⟨sm0.free hp, ne p hp⟩) (fun p o hp h => by rw [upd_ne (ne p hp)]; exact h) d v a2
      · rintro H' ⟨bt, ys, hD, L⟩
        rw [el, List.take_length] at L
        refine q _ _ (bt.same nD) ⟨Dd, ys, rfl, nD, hD, by rw [L.length]; omega, AtL.mono (fun _ h => h.1) (fun _ _ _ h => h) _ _ L⟩
    all_goals
      simp only [At] at hd
      subst hd
      walk_at "st"
      refine ⟨A1, _, hd', ?_⟩
      walk_at "rt"
      walk_at "st"
      refine ⟨A1, _, hd', ?_⟩
      walk_at "rt"
      walk_at "st"
      refine ⟨⟨A1, _, hd'⟩, ?_⟩
      walk_at "rt"
      exact q _ _ (Same.refl _) rfl
theorem copy_all {f : Addr} {fd : FuncData} (B : Bi mg) (D : Dn K mg "_law_copy" s_copy ["thing"] f fd) : ∀ n : Nat, FnOk P w K mg base CX0 (n + 1) f fd ["thing"] (spCopy n)
  | 0 => ok_copy0 D
  | n + 1 => ok_copy B D D n n (copy_all B D n)
end
end K01
namespace K01
open PySem PySem.Spec PyProof.Rows L2 TL
/-! ### texts: cutting and joining at one sign -/
theorem pre1 (s c : Nat) (r : List Nat) : pre [s] (c :: r) = (c == s) := by
  show ((c :: r).take 1 == [s]) = (c == s)
  simp
theorem spl_ne (s : Nat) : ∀ (l acc : List Nat), spl [s] 0 acc l ≠ []
  | [], acc => by rw [spl_nil]; simp
  | c :: r, acc => by
    by_cases h : pre [s] (c :: r) = true
    · rw [spl_hit h]; simp
    · rw [spl_miss (by simpa using h)]; exact spl_ne s r _
theorem join_spl (s : Nat) : ∀ (l acc : List Nat), joinL [s] (spl [s] 0 acc l) = acc ++ l
  | [], acc => by rw [spl_nil, List.append_nil]; rfl
  | c :: r, acc => by
    by_cases h : pre [s] (c :: r) = true
    · have e : c = s := by rw [pre1] at h; simpa using h
      rw [spl_hit h]
      have ih := join_spl s r []
      have hne := spl_ne s r []
      show joinL [s] (acc :: spl [s] 0 [] r) = acc ++ c :: r
      cases e2 : spl [s] 0 [] r with
      | nil => exact absurd e2 hne
      | cons q t =>
        rw [e2] at ih
        show acc ++ ([s] ++ joinL [s] (q :: t)) = acc ++ c :: r
        rw [ih, e]
        rfl
    · rw [spl_miss (by simpa using h), join_spl s r, List.append_assoc]
      rfl
theorem spl_free (s : Nat) : ∀ (l acc : List Nat), s ∉ acc → ∀ p ∈ spl [s] 0 acc l, s ∉ p
  | [], acc, h, p, hp => by rw [spl_nil] at hp; rw [List.mem_singleton.mp hp]; exact h
  | c :: r, acc, h, p, hp => by
    by_cases hc : pre [s] (c :: r) = true
    · rw [spl_hit hc] at hp
      rcases List.mem_cons.mp hp with e | hp
      · rw [e]; exact h
      · exact spl_free s r [] (by simp) p hp
    · rw [spl_miss (by simpa using hc)] at hp
      refine spl_free s r _ (fun hm => ?_) p hp
      rcases List.mem_append.mp hm with hm | hm
      · exact h hm
      · rw [pre1] at hc
        exact hc (by rw [List.mem_singleton.mp hm]; simp)
theorem spl_sub (s : Nat) : ∀ (l acc : List Nat) (t : Nat), t ∉ l → t ∉ acc → ∀ p ∈ spl [s] 0 acc l, t ∉ p
  | [], acc, t, _, h, p, hp => by rw [spl_nil] at hp; rw [List.mem_singleton.mp hp]; exact h
  | c :: r, acc, t, hl, h, p, hp => by
    have hr : t ∉ r := fun z => hl (List.mem_cons_of_mem _ z)
    by_cases hc : pre [s] (c :: r) = true
    · rw [spl_hit hc] at hp
      rcases List.mem_cons.mp hp with e | hp
      · rw [e]; exact h
      · exact spl_sub s r [] t hr (by simp) p hp
    · rw [spl_miss (by simpa using hc)] at hp
      refine spl_sub s r _ t hr (fun hm => ?_) p hp
      rcases List.mem_append.mp hm with hm | hm
      · exact h hm
      · exact hl (by rw [List.mem_singleton.mp hm]; exact List.mem_cons_self)
theorem joinL_len (s : Nat) : ∀ (ps : List (List Nat)), ps ≠ [] → (joinL [s] ps).length + 1 = (ps.map (·.length)).sum + ps.length
  | [], h => absurd rfl h
  | [p], _ => by
    show p.length + 1 = p.length + 0 + 1
    omega
  | p :: q :: r, _ => by
    have ih := joinL_len s (q :: r) (by simp)
    show (p ++ ([s] ++ joinL [s] (q :: r))).length + 1 = _
    rw [List.map_cons, List.sum_cons, List.length_append, List.length_append, List.length_cons (as := q :: r)]
    simp only [List.length_cons, List.length_nil] at ih ⊢
    omega
def nl : Str := Str.ofString "\n"
def sp : Str := Str.ofString " "
theorem tl_nl : tl nl = [10] := by decide +kernel
theorem tl_sp : tl sp = [32] := by decide +kernel
theorem kind_nl : nl.cps.all (· < 256) = true := by decide +kernel
theorem kind_sp : sp.cps.all (· < 256) = true := by decide +kernel
section
variable {y : Str} {s : Nat}
theorem split_tl (ey : tl y = [s]) (hk : y.cps.all (· < 256) = true) (x : Str) : (Txt.split x y).map tl = spl [s] 0 [] (tl x) := by
  rw [split_spl _ y (by rw [ey]; simp) (kind_ok hk), ey]
theorem split_ne (ey : tl y = [s]) (hk : y.cps.all (· < 256) = true) (x : Str) : Txt.split x y ≠ [] := fun e => by
  have h := split_tl ey hk x
  rw [e] at h
  exact spl_ne s _ _ h.symm
theorem join_split (ey : tl y = [s]) (hk : y.cps.all (· < 256) = true) (x : Str) : Txt.join y (Txt.split x y) = x := by
  refine ext_tl ?_
  rw [join_eq, tl_join, ey, split_tl ey hk, join_spl, List.nil_append]
theorem split_free (ey : tl y = [s]) (hk : y.cps.all (· < 256) = true) (x : Str) : ∀ p ∈ Txt.split x y, s ∉ tl p := fun p hp =>
  spl_free s (tl x) [] (by simp) (tl p) (by rw [← split_tl ey hk x]; exact List.mem_map_of_mem hp)
theorem split_sub (ey : tl y = [s]) (hk : y.cps.all (· < 256) = true) (x : Str) {t : Nat} (h : t ∉ tl x) : ∀ p ∈ Txt.split x y, t ∉ tl p := fun p hp =>
  spl_sub s (tl x) [] t h (by simp) (tl p) (by rw [← split_tl ey hk x]; exact List.mem_map_of_mem hp)
theorem join_len (ey : tl y = [s]) (ps : List Str) (h : ps ≠ []) : (Txt.join y ps).length + 1 = (ps.map (·.length)).sum + ps.length := by
  rw [len_tl, join_eq, tl_join, ey, joinL_len s _ (by simpa using h), List.map_map, List.length_map]
  have e : (ps.map (List.length ∘ tl)) = ps.map (·.length) := List.map_congr_left fun p _ => (len_tl p).symm
  rw [e]
theorem split_len (ey : tl y = [s]) (hk : y.cps.all (· < 256) = true) (x : Str) : ((Txt.split x y).map (·.length)).sum + (Txt.split x y).length = x.length + 1 := by
  rw [← join_len ey _ (split_ne ey hk x), join_split ey hk]
end
/-! ### lines of words -/
abbrev Lines := List (List Str)
def splitW (z : Str) : Lines := (Txt.split z nl).map fun l => Txt.split l sp
def joinW (ls : Lines) : Str := Txt.join nl (ls.map fun ws => Txt.join sp ws)
def plainW (ls : Lines) : Prop := ls ≠ [] ∧ ∀ ws ∈ ls, ws ≠ [] ∧ ∀ x ∈ ws, 32 ∉ tl x ∧ 10 ∉ tl x
theorem splitW_plain (z : Str) : plainW (splitW z) := by
  refine ⟨fun e => split_ne tl_nl kind_nl z (List.map_eq_nil_iff.mp e), fun ws hw => ?_⟩
  obtain ⟨l, hl, rfl⟩ := List.mem_map.mp hw
  exact ⟨split_ne tl_sp kind_sp l, fun x hx => ⟨split_free tl_sp kind_sp l x hx, split_sub tl_sp kind_sp l (split_free tl_nl kind_nl z l hl) x hx⟩⟩
theorem joinW_splitW (z : Str) : joinW (splitW z) = z := by
  show Txt.join nl (((Txt.split z nl).map fun l => Txt.split l sp).map fun ws => Txt.join sp ws) = z
  rw [List.map_map]
  have e : ((Txt.split z nl).map ((fun ws => Txt.join sp ws) ∘ fun l => Txt.split l sp)) = Txt.split z nl := by
    refine (List.map_congr_left fun l _ => ?_).trans (List.map_id _)
    exact join_split tl_sp kind_sp l
  rw [e, join_split tl_nl kind_nl]
theorem mem_joinL {s t : Nat} : ∀ {ps : List (List Nat)}, t ∈ joinL [s] ps → t = s ∨ ∃ p ∈ ps, t ∈ p
  | [], h => by cases h
  | [p], h => .inr ⟨p, List.mem_cons_self, h⟩
  | p :: q :: r, h => by
    rcases List.mem_append.mp (show t ∈ p ++ ([s] ++ joinL [s] (q :: r)) from h) with h | h
    · exact .inr ⟨p, List.mem_cons_self, h⟩
    · rcases List.mem_append.mp h with h | h
      · exact .inl (List.mem_singleton.mp h)
      · rcases mem_joinL h with h | ⟨p', hp, h⟩
        · exact .inl h
        · exact .inr ⟨p', List.mem_cons_of_mem _ hp, h⟩
theorem splitW_joinW {ls : Lines} (h : plainW ls) : splitW (joinW ls) = ls := by
  show (Txt.split (Txt.join nl (ls.map fun ws => Txt.join sp ws)) nl).map (fun l => Txt.split l sp) = ls
  rw [split_join tl_nl kind_nl (by simpa using h.1) fun p hp => ?_, List.map_map]
  · refine (List.map_congr_left fun ws hw => ?_).trans (List.map_id _)
    exact split_join tl_sp kind_sp (h.2 ws hw).1 fun p hp => ((h.2 ws hw).2 p hp).1
  · obtain ⟨ws, hw, rfl⟩ := List.mem_map.mp hp
    intro hm
    rw [join_eq, tl_join, tl_sp] at hm
    rcases mem_joinL hm with e | ⟨p, hp, hm⟩
    · cases e
    · obtain ⟨x, hx, rfl⟩ := List.mem_map.mp hp
      exact ((h.2 ws hw).2 x hx).2 hm
/-- how much there is -/
def totW (ls : Lines) : Nat := (ls.map fun ws => (ws.map (·.length)).sum + ws.length + 1).sum
theorem sum_le_of {α : Type} (f : α → Nat) : ∀ (l : List α) (x : α), x ∈ l → f x ≤ (l.map f).sum
  | [], _, h => by cases h
  | a :: l, x, h => by
    rw [List.map_cons, List.sum_cons]
    rcases List.mem_cons.mp h with e | h
    · rw [e]; omega
    · have := sum_le_of f l x h
      omega
theorem length_le_sum {α : Type} (f : α → Nat) (k : ∀ x, 1 ≤ f x) : ∀ l : List α, l.length ≤ (l.map f).sum
  | [] => Nat.le_refl _
  | a :: l => by
    rw [List.map_cons, List.sum_cons, List.length_cons]
    have := length_le_sum f k l
    have := k a
    omega
theorem totW_len (ls : Lines) : ls.length ≤ totW ls := length_le_sum _ (fun _ => by omega) ls
theorem totW_row {ls : Lines} {ws : List Str} (h : ws ∈ ls) : (ws.map (·.length)).sum + ws.length + 1 ≤ totW ls := sum_le_of (fun ws => (ws.map (·.length)).sum + ws.length + 1) ls ws h
theorem joinW_le (ls : Lines) : ((ls.map fun ws => Txt.join sp ws).map (·.length)).sum + ls.length ≤ totW ls := by
  induction ls with
  | nil => exact Nat.le_refl _
  | cons ws r ih =>
    show ((Txt.join sp ws).length + ((r.map fun ws => Txt.join sp ws).map (·.length)).sum) + (r.length + 1) ≤ ((ws.map (·.length)).sum + ws.length + 1) + totW r
    have h : (Txt.join sp ws).length ≤ (ws.map (·.length)).sum + ws.length := by
      cases ws with
      | nil => exact Nat.le_of_eq (by rw [join_eq]; rfl)
      | cons x t =>
        have := join_len tl_sp (x :: t) (by simp)
        omega
    omega
theorem splitW_tot (z : Str) : totW (splitW z) ≤ 3 * z.length + 3 := by
  have h1 := split_len tl_nl kind_nl z
  have h2 : ∀ ls : List Str, totW (ls.map fun l => Txt.split l sp) = (ls.map (·.length)).sum + 2 * ls.length := by
    intro ls
    induction ls with
    | nil => rfl
    | cons l r ih =>
      have h3 := split_len tl_sp kind_sp l
      show ((Txt.split l sp).map (·.length)).sum + (Txt.split l sp).length + 1 + totW (r.map fun l => Txt.split l sp) = (l.length + (r.map (·.length)).sum) + 2 * (r.length + 1)
      omega
  show totW ((Txt.split z nl).map fun l => Txt.split l sp) ≤ _
  rw [h2]
  omega
end K01
namespace K01
open PySem PySem.Spec PyProof.Rows L2 TL
local macro_rules | `(tactic| walk_at "rd") => `(tactic| simp only [start1, wipe, isR, isBool, isInt, isStr, isLst, isTup, tAsg, gName, gSub, tVar, tC, tOp, tUn, tTest, tIfS, tRet, tRetN, tDrop, tB, tAnd, tOr, tNot, tAndV, tOrV, tNotV, tIf, tCB, tCons, tNil, tNext, tCall, tBM, tTup, tLst, rI0, rI, rEq, rNe, scal, forR_eq, forR2_eq, forS_eq, forL_eq, lcL_eq, lcR_eq, lcS_eq, rLenX, rLenS, tM1, tM0, rSplitN, rJoinN, exists_eq, rIntI, rIntB, rIntS, rStrI, rAbs, rOrd, rMin, rMax, rIxL, rIxX, rSetL, rAppend, rIxS, rSlS, rSlL, tSl, List.map_cons, List.map_nil, List.replicate_succ, List.replicate_zero, List.length_cons, List.length_nil, Nat.reduceSub, Nat.reduceAdd, Nat.zero_add, Nat.sub_self, List.getElem?_cons_zero, List.getElem?_cons_succ, List.set_cons_zero, List.set_cons_succ, List.append_nil, List.nil_append, List.cons_append, Option.some.injEq, exists_eq_left', exists_eq_left, exists_eq', exists_and_left, exists_and_right, V.int.injEq, V.str.injEq, V.bl.injEq, V.ref.injEq, List.cons.injEq, and_true, true_and, and_assoc, decide_eq_true_eq, Bool.not_eq_true', decide_eq_false_iff_not, ite_true, ite_false, if_true, if_false, Bool.not_true, Bool.not_false, Bool.false_eq_true, eq_self_iff_true, reduceIte, ne_eq, Int.reduceEq, not_false_eq_true])
local macro_rules | `(tactic| walk_at "rt") => `(tactic| try walk_at "rd")
local macro_rules | `(tactic| walk_at "st") => `(tactic| (refine r_seq ?_; walk_at "rt"))
local macro_rules | `(tactic| walk_at "hp") => `(tactic| first | assumption | exact upd_same | (rw [upd_ne (by assumption)]; walk_at "hp"))
local macro_rules | `(tactic| walk_at "ex1") => `(tactic| ((with_reducible refine Exists.intro ?w (And.intro ?hx ?_)); (case hx => first | exact sq_of (by walk_at "hp") | exact .inl (sq_of (by walk_at "hp")) | exact rfl | (show _ = some (HO.lst _); walk_at "hp"))))
local macro_rules | `(tactic| walk_at "ex") => `(tactic| repeat (first | walk_at "ex1" | walk_at "rd"))
abbrev s_splitwords : Stmt := topS 3
theorem sc_splitwords : FnScope ["text", "line"] ["text"] (defScope s_splitwords) := ⟨rfl, rfl, rfl, by decide +kernel, rfl, by decide +kernel, by decide +kernel⟩
abbrev s_joinwords : Stmt := topS 4
theorem sc_joinwords : FnScope ["lines", "words"] ["lines"] (defScope s_joinwords) := ⟨rfl, rfl, rfl, by decide +kernel, rfl, by decide +kernel, by decide +kernel⟩
def strsD (ws : List Str) : Dat := .lst (ws.map .str)
def linesD (ls : Lines) : Dat := .lst (ls.map strsD)
theorem atL_strs {H : Hp} {A : Addr → Prop} : ∀ (ws : List Str) (xs : List V), AtL H A (ws.map .str) xs → xs = ws.map V.str
  | [], _, h => h
  | s :: ws, _, ⟨v, r, e, h1, h2⟩ => by
    rw [e, show v = V.str s from h1, atL_strs ws r h2]
    rfl
theorem atL_of {H : Hp} {A : Addr → Prop} : ∀ (ws : List Str), AtL H A (ws.map .str) (ws.map V.str)
  | [] => rfl
  | s :: ws => ⟨_, _, rfl, rfl, atL_of ws⟩
theorem noTup_lines (ls : Lines) : noTup (linesD ls) := by
  have h1 : ∀ ws : List Str, noTupL (ws.map .str) := fun ws => by
    induction ws with
    | nil => exact trivial
    | cons _ _ ih => exact ⟨trivial, ih⟩
  show noTupL (ls.map strsD)
  induction ls with
  | nil => exact trivial
  | cons ws _ ih => exact ⟨h1 ws, ih⟩
theorem dep_lines (ls : Lines) : (linesD ls).dep ≤ 2 := by
  have h1 : ∀ ws : List Str, depL (ws.map .str) = 0 := fun ws => by
    induction ws with
    | nil => rfl
    | cons _ _ ih => rw [List.map_cons, depL, ih]; rfl
  have h2 : depL (ls.map strsD) ≤ 1 := by
    induction ls with
    | nil => exact Nat.zero_le _
    | cons ws r ih =>
      rw [List.map_cons, depL, strsD, Dat.dep, h1]
      exact Nat.max_le.mpr ⟨by omega, ih⟩
  rw [linesD, Dat.dep]
  omega
/-- the lines at v: what stands where -/
theorem at_lines {H : Hp} {A : Addr → Prop} {ls : Lines} {v : V} (h : At H A (linesD ls) v) : ∃ (a : Addr) (rs : List Addr), v = .ref a ∧ A a ∧ H a = some (.lst (rs.map V.ref)) ∧ rs.length = ls.length ∧ ls.length ≤ 1000000 ∧
    ∀ (i : Nat) (r : Addr) (ws : List Str), rs[i]? = some r → ls[i]? = some ws → A r ∧ H r = some (.lst (ws.map V.str)) ∧ ws.length ≤ 1000000 := by
  obtain ⟨a, xs, e, ha, hx, hl, L⟩ := h
  have key : ∀ (ls : Lines) (xs : List V), AtL H A (ls.map strsD) xs → ∃ rs : List Addr, xs = rs.map V.ref ∧ rs.length = ls.length ∧ ∀ (i : Nat) (r : Addr) (ws : List Str), rs[i]? = some r → ls[i]? = some ws → A r ∧ H r = some (.lst (ws.map V.str)) ∧ ws.length ≤ 1000000 := by
    intro ls
    induction ls with
    | nil => intro xs h; exact ⟨[], h, rfl, fun i r ws h => by simp at h⟩
    | cons w t ih =>
      rintro xs ⟨v, r, e, ⟨b, ys, e2, hb, hy, hl2, L2⟩, h2⟩
      obtain ⟨rs, e3, hl3, k⟩ := ih r h2
      have ey := atL_strs w ys L2
      refine ⟨b :: rs, by rw [e, e2, e3]; rfl, by rw [List.length_cons, List.length_cons, hl3], fun i r ws h1 h2 => ?_⟩
      cases i with
      | zero =>
        cases h1
        cases h2
        rw [ey, List.length_map] at hl2
        rw [ey] at hy
        exact ⟨hb, hy, hl2⟩
      | succ i => exact k i r ws h1 h2
  obtain ⟨rs, e2, hl2, k⟩ := key ls xs L
  subst e2
  rw [List.length_map, hl2] at hl
  exact ⟨a, rs, e, ha, hx, hl2, hl, k⟩
/-- data made anew is put behind what a list of one's own holds -/
theorem acc_step {H1 H' H4 : Hp} {Dd : Addr} {ys : List V} {l : List Dat} {d : Dat} {v : V} (nD : H1 Dd = none) (bt : But Dd H1 H') (hD : H' Dd = some (.lst ys)) (L : AtL H' (fun p => H1 p = none ∧ p ≠ Dd) l ys) (sm : Same H' H4)
    (a : At H4 (fun p => H' p = none) d v) : But Dd H1 (upd H4 Dd (.lst (ys ++ [v]))) ∧ AtL (upd H4 Dd (.lst (ys ++ [v]))) (fun p => H1 p = none ∧ p ≠ Dd) (l ++ [d]) (ys ++ [v]) := by
  have ne : ∀ p, H' p = none → p ≠ Dd := fun p hp e => by rw [e, hD] at hp; cases hp
  refine ⟨bt.trans (But.trans (But.of sm) But.updA), AtL.snoc _ _ d v ?_ ?_⟩
  · exact AtL.mono (fun _ h => h) (fun p o hp h => by rw [upd_ne hp.2]; exact sm p o h) _ _ L
  · exact At.mono (A := fun p => H' p = none) (fun p hp => ⟨(bt.same nD).free hp, ne p hp⟩) (fun p o hp h => by rw [upd_ne (ne p hp)]; exact h) d v a
theorem size_ok {n : Nat} (h : n ≤ 1000000) : n < sizeLine := Nat.lt_of_le_of_lt h (by rw [PySem.sizeLine_eq]; decide)
def spSplit : Sp := fun vs H Q _ => ∃ (z : Str), vs = [.str z] ∧ z.length ≤ 100000 ∧ ∀ v H', Same H H' → At H' (fun p => H p = none) (linesD (splitW z)) v → Q v H'
def spJoin : Sp := fun vs H Q _ => ∃ (v : V) (A : Addr → Prop) (ls : Lines), vs = [v] ∧ At H A (linesD ls) v ∧ totW ls ≤ 1000000 ∧ ∀ H', Same H H' → Q (.str (joinW ls)) H'
section
variable {P : Program} {w : World} {K : PySem.W.Frag} {mg : Str → Option Value} {base : Heap}
theorem ok_splitwords {f : Addr} {fd : FuncData} (B : Bi mg) (D : Dn K mg "split_words" s_splitwords ["text"] f fd) : FnOk P w K mg base CX0 1 f fd ["text"] spSplit := by
  refine D.F.ok sc_splitwords (fun vs H Q E h => ?_) (fun cdv A outer s H vs Q E hr h => ?_)
  · obtain ⟨z, rfl, _⟩ := h
    rfl
  · obtain ⟨z, rfl, hz, q⟩ := h
    refine ⟨_, (pss_one (ps_ret (pe_lc (own := [("line", 1)]) (g := gName 1) (tt := tYes) (by rfl) sc_splitwords.nd (pi_listK (K := K) (pe_m1 PySem.F.slot_str_split PySem.F.type_str_split mt_splitN (pv 0) pe_str)) (blkOk_by (own := [("line", 1)]) (N := ["text", "line"]) (sc := defScope s_splitwords) (by decide +kernel)) (fun _ _ _ _ _ => pg_name (i := 1) sc_splitwords.nd rfl (Or.inl rfl)) (fun _ _ _ _ _ => pts_nil) (fun _ _ _ _ _ => (pe_m1 PySem.F.slot_str_split PySem.F.type_str_split mt_splitN (pv 1) pe_str))))), ?_⟩
    walk_at "rd"
    refine ⟨by decide, line_of (by omega), fun p np => ?_⟩
    refine ⟨⟨_, sq_of upd_same⟩, fun Dd nD => ?_⟩
    generalize hH1 : upd H p _ = H1 at nD
    have s1 : Same H H1 := by rw [← hH1]; exact Same.new np
    have h1 : H1 p = some (.lst ((Txt.split z nl).map V.str)) := by rw [← hH1]; exact upd_same
    have npD : p ≠ Dd := ne_of_none h1 nD
    have hlen := split_len tl_nl kind_nl z
    generalize hL : Txt.split z nl = L at h1 hlen
    refine r_lcL (K := K) (L.map V.str) (fun i H' => But Dd H1 H' ∧ ∃ ys, H' Dd = some (.lst ys) ∧ AtL H' (fun p' => H1 p' = none ∧ p' ≠ Dd) ((L.take i).map fun l => strsD (Txt.split l sp)) ys) (fun _ => rfl) ⟨But.updA, [], upd_same, rfl⟩ (fun i H' _ h => (h.1.same nD).seq (sq_of h1)) ?_ ?_
    · rintro i x H' hx ⟨bt, ys, hD, LL⟩ N k
      obtain ⟨l, hl, rfl⟩ := map_get hx
      have hi := lt_of_get hl
      have hll : l.length ≤ (L.map (·.length)).sum := sum_le_of (fun l : Str => l.length) L l (List.mem_of_getElem? hl)
      have el := LL.length
      rw [List.length_map, List.length_take] at el
      walk_at "rd"
      refine ⟨by decide, line_of (by omega), fun p' np' => ?_⟩
      have hsz := split_len tl_sp kind_sp l
      have nPD : p' ≠ Dd := fun e => by rw [e, hD] at np'; cases np'
      have st := acc_step nD bt hD LL (Same.new (o := .lst ((Txt.split l sp).map V.str)) np') (d := strsD (Txt.split l sp)) (v := .ref p') ⟨p', _, rfl, np', upd_same, by rw [List.length_map]; omega, atL_of _⟩
      refine k _ _ ys (by rw [upd_ne nPD.symm]; exact hD) (size_ok (by omega)) ⟨st.1, _, upd_same, ?_⟩
      rw [List.take_add_one, hl, List.map_append]
      exact st.2
    · rintro H' ⟨bt, ys, hD, LL⟩
      rw [List.length_map, List.take_length] at LL
      have el := LL.length
      rw [List.length_map] at el
      refine q _ _ (s1.trans (bt.same nD)) ⟨Dd, ys, rfl, s1.free nD, hD, by omega, ?_⟩
      have e : (splitW z).map strsD = L.map fun l => strsD (Txt.split l sp) := by
        show ((Txt.split z nl).map fun l => Txt.split l sp).map strsD = _
        rw [hL, List.map_map]
        rfl
      rw [e]
      exact AtL.mono (fun p' h => s1.free h.1) (fun _ _ _ h => h) _ _ LL
theorem ok_joinwords {f : Addr} {fd : FuncData} (B : Bi mg) (D : Dn K mg "join_words" s_joinwords ["lines"] f fd) : FnOk P w K mg base CX0 1 f fd ["lines"] spJoin := by
  refine D.F.ok sc_joinwords (fun vs H Q E h => ?_) (fun cdv A outer s H vs Q E hr h => ?_)
  · obtain ⟨v, A, ls, rfl, _⟩ := h
    rfl
  · obtain ⟨v, A1, ls, rfl, hd, ht, q⟩ := h
    obtain ⟨a, rs, rfl, _, ha, hrl, hl, hrs⟩ := at_lines hd
    refine ⟨_, (pss_one (ps_ret (pe_m1 PySem.F.slot_str_join PySem.F.type_str_join (mt_joinK (K := K)) pe_str (pe_lc (own := [("words", 1)]) (g := gName 1) (tt := tYes) (by rfl) sc_joinwords.nd (pi_listK (K := K) (pv 0)) (blkOk_by (own := [("words", 1)]) (N := ["lines", "words"]) (sc := defScope s_joinwords) (by decide +kernel)) (fun _ _ _ _ _ => pg_name (i := 1) sc_joinwords.nd rfl (Or.inl rfl)) (fun _ _ _ _ _ => pts_nil) (fun _ _ _ _ _ => (pe_m1 PySem.F.slot_str_join PySem.F.type_str_join (mt_joinK (K := K)) pe_str (pv 1))))))), ?_⟩
    walk_at "rd"
    refine ⟨⟨_, sq_of ha⟩, fun Dd nD => ?_⟩
    refine r_lcL (K := K) (rs.map V.ref) (fun i H' => But Dd H H' ∧ H' Dd = some (.lst (((ls.take i).map fun ws => Txt.join sp ws).map V.str))) (fun _ => rfl) ⟨But.updA, upd_same⟩ (fun i H' _ h => (h.1.same nD).seq (sq_of ha)) ?_ ?_
    · rintro i x H' hx ⟨bt, hD⟩ N k
      obtain ⟨r, hr1, rfl⟩ := map_get hx
      have hi := lt_of_get hr1
      obtain ⟨ws, hws⟩ : ∃ ws, ls[i]? = some ws := ⟨_, List.getElem?_eq_getElem (by omega)⟩
      obtain ⟨_, hw, hwl⟩ := hrs i r ws hr1 hws
      have htw := totW_row (List.mem_of_getElem? hws)
      walk_at "rd"
      refine ⟨ws, (bt.same nD).seq (sq_of hw), ?_, ?_⟩
      · have e : (Str.ofString " ").length = 1 := by decide +kernel
        rw [e]
        omega
      · refine k _ _ _ hD (size_ok (by rw [List.length_map, List.length_map, List.length_take]; omega)) ⟨bt.trans But.updA, ?_⟩
        rw [upd_same, List.take_add_one, hws, List.map_append, List.map_append]
        rfl
    · rintro H' ⟨bt, hD⟩
      rw [List.length_map, hrl, List.take_length] at hD
      walk_at "rt"
      have hj := joinW_le ls
      refine ⟨_, sq_of hD, ?_, q _ (bt.same nD)⟩
      have e : (Str.ofString "\n").length = 1 := by decide +kernel
      rw [e, List.length_map]
      omega
end
end K01
namespace K01
open PySem PySem.Spec PyProof.Rows L2
def rAllK (K : PySem.W.Frag) (vs : List V) (H : Hp) (Q : VK) : Prop := ∃ a, vs = [V.ref a] ∧ ∃ bs : List Bool, SqL K H a (bs.map V.bl) ∧ Q (.bl (bs.all id)) H
theorem call_allK {X : Cx} {K : PySem.W.Frag} (h : X.K = K := by rfl) (hc : X.calm = true := by rfl) : CallR X (.builtin "all") (rAllK K) := callR_mono (h ▸ cr_all hc) fun _ _ _ ⟨a, e, bs, h1, q⟩ => ⟨a, bs, e, h1, q⟩
theorem opR_mono {X : Cx} {f : Value → Value → Sem Value} {r r' : R2} (h : OpR X f r) (k : ∀ x y H Q, r' x y H Q → r x y H Q) : OpR X f r' := fun pins s σ H x y v u Q I rx ry q => h pins s σ H x y v u Q I rx ry (k _ _ _ _ q)
def rInSg (x y : V) (H : Hp) (Q : VK) : Prop := ∃ c : Nat, x = .str ⟨#[c]⟩ ∧ ∃ z : Str, y = .str z ∧ Q (.bl (decide (c ∈ z.cps.toList))) H
theorem op_inSg {X : Cx} : OpR X (compareOp .In) rInSg := opR_mono op_in_sign fun _ _ _ _ ⟨c, e, z, e2, q⟩ => ⟨c, z, e, e2, q⟩
def rNinSg (x y : V) (H : Hp) (Q : VK) : Prop := ∃ c : Nat, x = .str ⟨#[c]⟩ ∧ ∃ z : Str, y = .str z ∧ Q (.bl (!decide (c ∈ z.cps.toList))) H
theorem op_ninSg {X : Cx} : OpR X (compareOp .NotIn) rNinSg := opR_mono op_notIn_sign fun _ _ _ _ ⟨c, e, z, e2, q⟩ => ⟨c, z, e, e2, q⟩
theorem sgn_inj {a b : Nat} : ((⟨#[a]⟩ : Str) = ⟨#[b]⟩) = (a = b) := propext ⟨fun h => by
  have e := congrArg (fun z : Str => z.cps.toList) h
  simpa using e, fun h => by rw [h]⟩
def rAddS (x y : V) (H : Hp) (Q : VK) : Prop := ∃ i, x = .str i ∧ ∃ j, y = .str j ∧ i.length + j.length ≤ sizeLine ∧ Q (.str (i ++ j)) H
theorem op_addS {X : Cx} : OpR X (binaryOp .Add) rAddS := opR_mono op_add_str fun _ _ _ _ ⟨i, e, j, e2, h, q⟩ => ⟨i, j, e, e2, h, q⟩
def rInSt (x y : V) (H : Hp) (Q : VK) : Prop := ∃ i, x = .str i ∧ ∃ j, y = .str j ∧ Q (.bl (!(Builtin.Str.occurrences j i 0 j.length 1).isEmpty)) H
theorem op_inSt {X : Cx} : OpR X (compareOp .In) rInSt := opR_mono op_in_str fun _ _ _ _ ⟨i, e, j, e2, q⟩ => ⟨i, j, e, e2, q⟩
end K01
namespace K01
open PySem PySem.Spec PyProof.Rows L2 TL
local macro_rules | `(tactic| walk_at "rd") => `(tactic| simp only [start1, wipe, isR, isBool, isInt, isStr, isLst, isTup, tAsg, gName, gSub, tVar, tC, tOp, tUn, tTest, tIfS, tRet, tRetN, tDrop, tB, tAnd, tOr, tNot, tAndV, tOrV, tNotV, tIf, tCB, tCons, tNil, tNext, tCall, tBM, tTup, tLst, rI0, rI, rEq, rNe, scal, forR_eq, forR2_eq, forS_eq, forL_eq, lcL_eq, lcR_eq, lcS_eq, rLenX, rLenS, rAllK, rInSg, rNinSg, sgn_inj, rAddS, rInSt, tChain, tM1, tM0, rSplitN, rJoinN, exists_eq, rIntI, rIntB, rIntS, rStrI, rAbs, rOrd, rMin, rMax, rIxL, rIxX, rSetL, rAppend, rIxS, rSlS, rSlL, tSl, List.map_cons, List.map_nil, List.replicate_succ, List.replicate_zero, List.length_cons, List.length_nil, Nat.reduceSub, Nat.reduceAdd, Nat.zero_add, Nat.sub_self, List.getElem?_cons_zero, List.getElem?_cons_succ, List.set_cons_zero, List.set_cons_succ, List.append_nil, List.nil_append, List.cons_append, Option.some.injEq, exists_eq_left', exists_eq_left, exists_eq', exists_and_left, exists_and_right, V.int.injEq, V.str.injEq, V.bl.injEq, V.ref.injEq, List.cons.injEq, and_true, true_and, and_assoc, decide_eq_true_eq, Bool.not_eq_true', decide_eq_false_iff_not, ite_true, ite_false, if_true, if_false, Bool.not_true, Bool.not_false, Bool.false_eq_true, eq_self_iff_true, reduceIte, ne_eq, Int.reduceEq, not_false_eq_true])
local macro_rules | `(tactic| walk_at "rt") => `(tactic| try walk_at "rd")
local macro_rules | `(tactic| walk_at "st") => `(tactic| (walk_at "rt"; refine r_seq ?_; walk_at "rt"))
local macro_rules | `(tactic| walk_at "hp") => `(tactic| first | assumption | exact upd_same | (rw [upd_ne (by assumption)]; walk_at "hp"))
local macro_rules | `(tactic| walk_at "ex1") => `(tactic| ((with_reducible refine Exists.intro ?w (And.intro ?hx ?_)); (case hx => first | exact sq_of (by walk_at "hp") | exact .inl (sq_of (by walk_at "hp")) | exact rfl | (show _ = some (HO.lst _); walk_at "hp"))))
local macro_rules | `(tactic| walk_at "ex") => `(tactic| repeat (first | walk_at "ex1" | walk_at "rd"))
abbrev s_readnumber : Stmt := topS 5
theorem sc_readnumber : FnScope ["word", "digit"] ["word"] (defScope s_readnumber) := ⟨rfl, rfl, rfl, by decide +kernel, rfl, by decide +kernel, by decide +kernel⟩
abbrev s_digits : Stmt := topS 25
theorem sc_digits : FnScope ["word", "total", "sign"] ["word"] (defScope s_digits) := ⟨rfl, rfl, rfl, by decide +kernel, rfl, by decide +kernel, by decide +kernel⟩
def isDig (c : Nat) : Bool := decide (48 ≤ c) && decide (c ≤ 57)
/-- the number that a text writes -/
def numOf (z : Str) : V := if (1 ≤ z.length ∧ z.length ≤ 20) ∧ (tl z).all isDig = true ∧ ¬ ((tl z)[0]? = some 48 ∧ 1 < z.length) then .int ((NumText.digitsVal (tl z) : Nat) : Int) else .non
theorem dig_mem (c : Nat) : decide (c ∈ (Str.ofString "0123456789").cps.toList) = isDig c := by
  have e : (Str.ofString "0123456789").cps.toList = [48, 49, 50, 51, 52, 53, 54, 55, 56, 57] := by decide +kernel
  rw [e]
  unfold isDig
  by_cases h : 48 ≤ c ∧ c ≤ 57
  · obtain ⟨h1, h2⟩ := h
    have : c = 48 ∨ c = 49 ∨ c = 50 ∨ c = 51 ∨ c = 52 ∨ c = 53 ∨ c = 54 ∨ c = 55 ∨ c = 56 ∨ c = 57 := by omega
    rcases this with h | h | h | h | h | h | h | h | h | h <;> subst h <;> decide
  · have h2 : (decide (48 ≤ c) && decide (c ≤ 57)) = false := by
      simp only [Bool.and_eq_false_iff, decide_eq_false_iff_not]
      omega
    rw [h2]
    refine decide_eq_false fun hm => h ?_
    simp only [List.mem_cons, List.not_mem_nil, or_false] at hm
    omega
theorem str0 : Str.ofString "0" = ⟨#[48]⟩ := by decide +kernel
def spNum : Sp := fun vs H Q _ => ∃ (z : Str), vs = [.str z] ∧ z.length ≤ 1000000 ∧ ∀ H', Same H H' → Q (numOf z) H'
section
variable {P : Program} {w : World} {K : PySem.W.Frag} {mg : Str → Option Value} {base : Heap}
theorem ok_readnumber {f : Addr} {fd : FuncData} (B : Bi mg) {t1 t2 : Tok} (gc_MOST_DIGITS : mg "MOST_DIGITS" = some (.int 20 t1)) (gc_DIGITS : mg "DIGITS" = some (.str (Str.ofString "0123456789") t2)) (D : Dn K mg "read_number" s_readnumber ["word"] f fd) : FnOk P w K mg base CX0 1 f fd ["word"] spNum := by
  refine D.F.ok sc_readnumber (fun vs H Q E h => ?_) (fun cdv A outer s H vs Q E hr h => ?_)
  · obtain ⟨z, rfl, _⟩ := h
    rfl
  · obtain ⟨z, rfl, hz, q⟩ := h
    have hl : (tl z).length = z.length := (len_tl z).symm
    refine ⟨_, (pss_cons (ps_if (PW.pt (pw_or (pt_not (pt_chain op_le op_le pe_int (pe_callB call_lenS (by rfl) B.len PySem.boot_len (pa_cons (pv 0) pa_nil)) (pe_glob (v := .int 20) (by rfl) gc_MOST_DIGITS ⟨_, rfl⟩))) (pw_or1 (pt_not (pt_val (pe_callB (call_allK (K := K)) (by rfl) B.all (by decide +kernel) (pa_cons (pe_lc (own := [("digit", 1)]) (g := gName 1) (tt := tYes) (by rfl) sc_readnumber.nd (pi_str (pv 0)) (blkOk_by (own := [("digit", 1)]) (N := ["word", "digit"]) (sc := defScope s_readnumber) (by decide +kernel)) (fun _ _ _ _ _ => pg_name (i := 1) sc_readnumber.nd rfl (Or.inl rfl)) (fun _ _ _ _ _ => pts_nil) (fun _ _ _ _ _ => (pe_cmpR op_inSg (pv 1) (pe_glob (v := .str (Str.ofString "0123456789")) (by rfl) gc_DIGITS ⟨_, rfl⟩) (by rfl)))) pa_nil))))))) (pss_one (ps_ret pe_non)) pss_nil)
      (pss_cons (ps_if (PW.pt (pw_and (pt_cmpR op_eq (pe_ix ix_str (pv 0) pe_int (fun _ _ => rfl)) pe_str (nomark _)) (pw_and1 (pt_cmpR op_gt (pe_callB call_lenS (by rfl) B.len PySem.boot_len (pa_cons (pv 0) pa_nil)) pe_int (nomark _))))) (pss_one (ps_ret pe_non)) pss_nil)
      (pss_one (ps_ret (pe_callTy call_intS (by rfl) B.int_ (by decide +kernel) (pa_cons (pv 0) pa_nil)))))), ?_⟩
    walk_at "st"
    have non : ¬ ((1 ≤ z.length ∧ z.length ≤ 20) ∧ (tl z).all isDig = true ∧ ¬ ((tl z)[0]? = some 48 ∧ 1 < z.length)) → ∀ H', Same H H' → Q .non H' := fun hn H' sm => by
      have := q H' sm
      rw [numOf, if_neg hn] at this
      exact this
    refine ⟨line_of (by omega), ite2 (fun h1 => ite2 (fun h2 => non (by omega) _ (Same.refl _)) (fun h2 => fun Dd nD => ?_)) (fun h1 => non (by omega) _ (Same.refl _))⟩
    refine r_lcS z (fun i H' => But Dd H H' ∧ H' Dd = some (.lst ((((tl z).take i).map isDig).map V.bl))) (fun _ => rfl) ⟨But.updA, upd_same⟩ ?_ ?_
    · rintro i c H' hc ⟨bt, hD⟩ N k
      have hi := lt_of_get hc
      walk_at "rd"
      refine k _ _ _ hD (size_ok (by rw [List.length_map, List.length_map, List.length_take]; omega)) ⟨bt.trans But.updA, ?_⟩
      rw [upd_same, dig_mem, List.take_add_one, hc, List.map_append, List.map_append]
      rfl
    · rintro H' ⟨bt, hD⟩
      rw [List.take_length] at hD
      have sm := bt.same nD
      have eall : ((tl z).map isDig).all id = (tl z).all isDig := by rw [List.all_map]; rfl
      refine ⟨_, sq_of hD, ite2 (fun hf => non (fun h => ?_) _ sm) (fun ht => ?_)⟩
      · rw [eall, h.2.1] at hf
        cases hf
      have hall : (tl z).all isDig = true := by
        rw [eall] at ht
        cases e : (tl z).all isDig with
        | true => rfl
        | false => exact absurd e ht
      obtain ⟨c, hc, hc2⟩ := atI_get (xs := tl z) (i := 0) (by decide) (by show 0 < _; omega)
      have hc3 : (tl z)[0]? = some c := hc2
      walk_at "st"
      refine ⟨line_of (by omega), c, hc, ?_⟩
      simp only [str0, sgn_inj]
      have fin : ¬ (c = 48 ∧ 1 < z.length) → (∃ n, intText? z = some n ∧ z.length ≤ 640 ∧ Q (.int n) H') := fun hn => by
        have e : intText? z = some ((NumText.digitsVal (tl z) : Nat) : Int) := intText_digits (fun d hd => by
          have := List.all_eq_true.mp hall d hd
          unfold isDig at this
          simpa using this) (fun e => by have e2 : z.cps.toList.length = 0 := by { rw [e]; rfl }; have e3 : z.cps.toList.length = z.length := rfl; omega) (by omega)
        have := q H' sm
        rw [numOf, if_pos ⟨⟨by omega, by omega⟩, hall, by rw [hc3]; simpa using hn⟩] at this
        exact ⟨_, e, by omega, this⟩
      refine ite2 (fun e => ⟨line_of (by omega), ite2 (fun hlen => non (fun h => h.2.2 ⟨by rw [hc3, e], by omega⟩) _ sm) (fun hlen => ?_)⟩) (fun e => ?_)
      · walk_at "rt"
        exact fin (by omega)
      · walk_at "rt"
        exact fin (by omega)
theorem ok_digits {f : Addr} {fd : FuncData} (B : Bi mg) (D : Dn K mg "_law_digits" s_digits ["word"] f fd) : FnOk P w K mg base CX0 1 f fd ["word"] spNum := by
  refine D.F.ok sc_digits (fun vs H Q E h => ?_) (fun cdv A outer s H vs Q E hr h => ?_)
  · obtain ⟨z, rfl, _⟩ := h
    rfl
  · obtain ⟨z, rfl, hz, q0⟩ := h
    have q := q0 H (Same.refl H)
    have hl : (tl z).length = z.length := (len_tl z).symm
    have non : ¬ ((1 ≤ z.length ∧ z.length ≤ 20) ∧ (tl z).all isDig = true ∧ ¬ ((tl z)[0]? = some 48 ∧ 1 < z.length)) → Q .non H := fun hn => by
      rw [numOf, if_neg hn] at q
      exact q
    refine ⟨_, (pss_cons (ps_if (PW.pt (pw_or (pt_cmpR op_lt (pe_callB call_lenS (by rfl) B.len PySem.boot_len (pa_cons (pv 0) pa_nil)) pe_int (nomark _)) (pw_or1 (pt_cmpR op_gt (pe_callB call_lenS (by rfl) B.len PySem.boot_len (pa_cons (pv 0) pa_nil)) pe_int (nomark _))))) (pss_one (ps_ret pe_non)) pss_nil)
      (pss_cons (ps_set (i := 1) sc_digits.nd rfl (.inl rfl) pe_int)
      (pss_cons (ps_for PassesOwn.never rfl (pi_str (pv 0)) (pg_name (i := 2) sc_digits.nd rfl (.inl rfl)) (pss_cons (ps_if (PW.pt (pw_or (pt_cmpR op_lt (pe_callB call_ordI (by rfl) B.ord (by decide +kernel) (pa_cons (pv 2) pa_nil)) pe_int (nomark _)) (pw_or1 (pt_cmpR op_gt (pe_callB call_ordI (by rfl) B.ord (by decide +kernel) (pa_cons (pv 2) pa_nil)) pe_int (nomark _))))) (pss_one (ps_ret pe_non)) pss_nil)
      (pss_one (ps_set (i := 1) sc_digits.nd rfl (.inl rfl) (pe_op op_sub (pe_op op_add (pe_op op_mul (pv 1) pe_int) (pe_callB call_ordI (by rfl) B.ord (by decide +kernel) (pa_cons (pv 2) pa_nil))) pe_int)))))
      (pss_cons (ps_if (PW.pt (pw_and (pt_cmpR op_eq (pe_ix ix_str (pv 0) pe_int (fun _ _ => rfl)) pe_str (nomark _)) (pw_and1 (pt_cmpR op_gt (pe_callB call_lenS (by rfl) B.len PySem.boot_len (pa_cons (pv 0) pa_nil)) pe_int (nomark _))))) (pss_one (ps_ret pe_non)) pss_nil)
      (pss_one (ps_ret (pv 1))))))), ?_⟩
    walk_at "st"
    refine ⟨line_of (by omega), ite2 (fun h1 => non (by omega)) (fun h1 => ⟨line_of (by omega), ite2 (fun h2 => non (by omega)) (fun h2 => ?_)⟩)⟩
    walk_at "st"
    walk_at "st"
    refine r_str z (fun i σ H' => (∃ x : Option V, σ = [some (.str z), some (.int ((NumText.digitsVal ((tl z).take i) : Nat) : Int)), x]) ∧ H' = H ∧ ((tl z).take i).all isDig = true) ⟨⟨_, rfl⟩, rfl, rfl⟩ ?_ ?_
    · rintro i c σ H' hc ⟨⟨x, rfl⟩, rfl, hall⟩ N k
      have hi := lt_of_get hc
      have hdv : NumText.digitsVal ((tl z).take (i + 1)) = NumText.digitsVal ((tl z).take i) * 10 + (c - 48) := by
        rw [List.take_add_one, hc]
        unfold NumText.digitsVal
        rw [List.foldl_append]
        rfl
      have bad : isDig c = false → Q .non H' := fun hd => non fun h => by
        have := List.all_eq_true.mp h.2.1 c (List.mem_of_getElem? hc)
        rw [hd] at this
        cases this
      walk_at "rd"
      walk_at "st"
      have hnd : ((c : Int) < 48 ∨ 57 < (c : Int)) → isDig c = false := fun h => by
        unfold isDig
        simp only [Bool.and_eq_false_iff, decide_eq_false_iff_not]
        omega
      refine ite2 (fun hlt => bad (hnd (.inl hlt))) (fun hlt => ite2 (fun hgt => bad (hnd (.inr hgt))) (fun hgt => ?_))
      walk_at "rt"
      refine ⟨.inr ⟨by decide, by decide⟩, k _ _ ⟨⟨some (.str ⟨#[c]⟩), ?_⟩, rfl, ?_⟩⟩
      · rw [hdv]
        have e : ((NumText.digitsVal ((tl z).take i) : Nat) : Int) * 10 + (c : Int) - 48 = ((NumText.digitsVal ((tl z).take i) * 10 + (c - 48) : Nat) : Int) := by omega
        rw [e]
      · rw [List.take_add_one, hc, List.all_append, hall]
        show (true && ([c].all isDig)) = true
        have : isDig c = true := by
          unfold isDig
          simp only [Bool.and_eq_true, decide_eq_true_eq]
          omega
        simp [this]
    · rintro σ H' ⟨⟨x, rfl⟩, rfl, hall⟩
      rw [List.take_length] at hall ⊢
      obtain ⟨c, hc, hc2⟩ := atI_get (xs := tl z) (i := 0) (by decide) (by show 0 < _; omega)
      have hc3 : (tl z)[0]? = some c := hc2
      walk_at "st"
      refine ⟨line_of (by omega), c, hc, ?_⟩
      simp only [str0, sgn_inj]
      have fin : ¬ (c = 48 ∧ 1 < z.length) → Q (.int ((NumText.digitsVal (tl z) : Nat) : Int)) H' := fun hn => by
        rw [numOf, if_pos ⟨⟨by omega, by omega⟩, hall, by rw [hc3]; simpa using hn⟩] at q
        exact q
      refine ite2 (fun e => ⟨line_of (by omega), ite2 (fun hlen => non (fun h => h.2.2 ⟨by rw [hc3, e], by omega⟩)) (fun hlen => ?_)⟩) (fun e => ?_)
      · walk_at "rt"
        exact fin (by omega)
      · walk_at "rt"
        exact fin (by omega)
end
end K01
namespace K01
open PySem PySem.Spec PyProof.Rows L2 TL
local macro_rules | `(tactic| walk_at "rd") => `(tactic| simp only [start1, wipe, isR, isBool, isInt, isStr, isLst, isTup, tAsg, gName, gSub, tVar, tC, tOp, tUn, tTest, tIfS, tRet, tRetN, tDrop, tB, tAnd, tOr, tNot, tAndV, tOrV, tNotV, tIf, tCB, tCons, tNil, tNext, tCall, tBM, tTup, tLst, rI0, rI, rEq, rNe, scal, forR_eq, forR2_eq, forS_eq, forL_eq, lcL_eq, lcR_eq, lcS_eq, rLenX, rLenS, rAllK, rInSg, rNinSg, sgn_inj, rAddS, rInSt, tChain, tM1, tM0, rSplitN, rJoinN, exists_eq, rIntI, rIntB, rIntS, rStrI, rAbs, rOrd, rMin, rMax, rIxL, rIxX, rSetL, rAppend, rIxS, rSlS, rSlL, tSl, List.map_cons, List.map_nil, List.replicate_succ, List.replicate_zero, List.length_cons, List.length_nil, Nat.reduceSub, Nat.reduceAdd, Nat.zero_add, Nat.sub_self, List.getElem?_cons_zero, List.getElem?_cons_succ, List.set_cons_zero, List.set_cons_succ, List.append_nil, List.nil_append, List.cons_append, Option.some.injEq, exists_eq_left', exists_eq_left, exists_eq', exists_and_left, exists_and_right, V.int.injEq, V.str.injEq, V.bl.injEq, V.ref.injEq, List.cons.injEq, and_true, true_and, and_assoc, decide_eq_true_eq, Bool.not_eq_true', decide_eq_false_iff_not, ite_true, ite_false, if_true, if_false, Bool.not_true, Bool.not_false, Bool.false_eq_true, eq_self_iff_true, reduceIte, ne_eq, Int.reduceEq, not_false_eq_true])
local macro_rules | `(tactic| walk_at "rt") => `(tactic| try walk_at "rd")
local macro_rules | `(tactic| walk_at "st") => `(tactic| (walk_at "rt"; refine r_seq ?_; walk_at "rt"))
local macro_rules | `(tactic| walk_at "hp") => `(tactic| first | assumption | exact upd_same | (rw [upd_ne (by assumption)]; walk_at "hp"))
local macro_rules | `(tactic| walk_at "ex1") => `(tactic| ((with_reducible refine Exists.intro ?w (And.intro ?hx ?_)); (case hx => first | exact sq_of (by walk_at "hp") | exact .inl (sq_of (by walk_at "hp")) | exact rfl | (show _ = some (HO.lst _); walk_at "hp"))))
local macro_rules | `(tactic| walk_at "ex") => `(tactic| repeat (first | walk_at "ex1" | walk_at "rd"))
abbrev s_text : Stmt := topS 19
theorem sc_text : FnScope ["store", "high", "many", "found", "k", "kind"] ["store", "high"] (defScope s_text) := ⟨rfl, rfl, rfl, by decide +kernel, rfl, by decide +kernel, by decide +kernel⟩
theorem StoreAt.put {H : Hp} {a c p : Addr} {o : HO} (S : StoreAt H a c) (n1 : p ≠ a) (n2 : p ≠ c) : StoreAt (L2.upd H p o) a c := by
  obtain ⟨⟨cells, pos, val, turn, seed, h1, h2, h3, h4⟩, n⟩ := S
  exact ⟨⟨cells, pos, val, turn, seed, by rw [upd_ne n1.symm]; exact h1, by rw [upd_ne n2.symm]; exact h2, h3, h4⟩, n⟩
theorem StoreAt.new {H : Hp} {a c p : Addr} {o : HO} (S : StoreAt H a c) (n : H p = none) : StoreAt (L2.upd H p o) a c := by
  obtain ⟨cells, pos, val, turn, seed, h1, h2, _⟩ := S.ex
  exact S.put (ne_of_none h1 n).symm (ne_of_none h2 n).symm
theorem StoreAt.ne1 {H : Hp} {a c p : Addr} (S : StoreAt H a c) (n : H p = none) : p ≠ a := by
  obtain ⟨cells, pos, val, turn, seed, h1, h2, _⟩ := S.ex
  exact (ne_of_none h1 n).symm
theorem StoreAt.ne2 {H : Hp} {a c p : Addr} (S : StoreAt H a c) (n : H p = none) : p ≠ c := by
  obtain ⟨cells, pos, val, turn, seed, h1, h2, _⟩ := S.ex
  exact (ne_of_none h2 n).symm
theorem But.putNew {a p : Addr} {H1 H4 : Hp} {o : HO} (h : But a H1 H4) (np : H1 p = none) : But a H1 (L2.upd H4 p o) := fun b x hb e => by
  rw [upd_ne (ne_of_none e np)]
  exact h b x hb e
theorem joinL_nil_len : ∀ ps : List (List Nat), (joinL [] ps).length = (ps.map (·.length)).sum
  | [] => rfl
  | [p] => by
    show p.length = p.length + 0
    omega
  | p :: q :: r => by
    have ih := joinL_nil_len (q :: r)
    show (p ++ ([] ++ joinL [] (q :: r))).length = p.length + ((q :: r).map (·.length)).sum
    rw [List.length_append, List.nil_append, ih]
theorem sum_ones : ∀ (ws : List Str), (∀ x ∈ ws, x.length = 1) → (ws.map (·.length)).sum = ws.length
  | [], _ => rfl
  | x :: r, h => by
    rw [List.map_cons, List.sum_cons, sum_ones r fun y hy => h y (List.mem_cons_of_mem _ hy), h x List.mem_cons_self, List.length_cons]
    omega
theorem join0_len {y : Str} (hy : tl y = []) {ws : List Str} (h : ∀ x ∈ ws, x.length = 1) : (Txt.join y ws).length = ws.length := by
  rw [len_tl, join_eq, tl_join, hy, joinL_nil_len, List.map_map]
  have e : ws.map (List.length ∘ tl) = ws.map (·.length) := List.map_congr_left fun p _ => (len_tl p).symm
  rw [e, sum_ones ws h]
theorem tl_emp : tl (Str.ofString "") = [] := by decide +kernel
def spSigns : Sp := fun vs H Q _ => vs = [] ∧ ∀ z : Str, tl z ≠ [] → z.length ≤ 1000 → Q (.str z) H
def TextLe (n : Int) (v : V) : Prop := ∃ z : Str, v = .str z ∧ (z.length : Int) ≤ n
def spText : Sp := fun vs H Q _ => ∃ (a c : Addr) (hi : Int), vs = [.ref a, .int hi] ∧ StoreAt H a c ∧ 0 ≤ hi ∧ hi ≤ 1000 ∧ Drawn H a c (TextLe hi) Q
section
variable {P : Program} {w : World} {K : PySem.W.Frag} {mg : Str → Option Value} {base : Heap}
theorem ok_signs {f : Addr} {fd : FuncData} (B : Bi mg) (D : Dn K mg "_law_signs_of_texts" s_signsoftexts [] f fd) : FnOk P w K mg base CX0 1 f fd [] spSigns := by
  refine D.F.ok sc_signsoftexts (fun vs H Q E h => ?_) (fun cdv A outer s H vs Q E hr h => ?_)
  · obtain ⟨rfl, _⟩ := h
    rfl
  · obtain ⟨rfl, q⟩ := h
    refine ⟨_, (pss_cons (ps_set (i := 0) sc_signsoftexts.nd rfl (.inl rfl) pe_str)
      (pss_one (ps_ret (pe_op op_addS (pv 0) pe_str)))), ?_⟩
    walk_at "st"
    refine ⟨by decide +kernel, q _ (by decide +kernel) (by decide +kernel)⟩
theorem ok_text {f f_take f_size f_pick f_signs : Addr} {fd fd_take fd_size fd_pick fd_signs : FuncData} (B : Bi mg) (D : Dn K mg "_law_text" s_text ["store", "high"] f fd)
    (D_take : Dn K mg "_law_take" s_take ["store", "many"] f_take fd_take) (D_size : Dn K mg "_law_size" s_size ["store", "low", "high"] f_size fd_size) (D_pick : Dn K mg "_law_pick" s_pick ["store", "row"] f_pick fd_pick) (D_signsoftexts : Dn K mg "_law_signs_of_texts" s_signsoftexts [] f_signs fd_signs)
    (G_take : FnOk P w K mg base CX0 2 f_take fd_take ["store", "many"] spTake) (G_size : FnOk P w K mg base CX0 3 f_size fd_size ["store", "low", "high"] spRange) (G_pick : FnOk P w K mg base CX0 3 f_pick fd_pick ["store", "row"] spPick) (G_signsoftexts : FnOk P w K mg base CX0 1 f_signs fd_signs [] spSigns) :
    FnOk P w K mg base CX0 4 f fd ["store", "high"] spText := by
  refine D.F.ok sc_text (fun vs H Q E h => ?_) (fun cdv A outer s H vs Q E hr h => ?_)
  · obtain ⟨a, c, hi, rfl, _⟩ := h
    rfl
  · obtain ⟨a, c, hi, rfl, S, h0, h1, q⟩ := h
    refine ⟨_, (pss_cons (ps_set (i := 2) sc_text.nd rfl (.inl rfl) (pe_call G_size (hr.mono (by omega)) (by rfl) D_size.g D_size.F.kp D_size.b .nil pass0 (pa_cons (pv 0) (pa_cons pe_int (pa_cons (pv 1) pa_nil)))))
      (pss_cons (ps_set (i := 3) sc_text.nd rfl (.inl rfl) (pe_lst pa_nil))
      (pss_cons (ps_for PassesOwn.never rfl (pi_range1 (by rfl) B.range (pa_cons (pv 2) pa_nil)) (pg_name (i := 4) sc_text.nd rfl (.inl rfl)) (pss_cons (ps_set (i := 5) sc_text.nd rfl (.inl rfl) (pe_call G_take (hr.mono (by omega)) (by rfl) D_take.g D_take.F.kp D_take.b .nil pass0 (pa_cons (pv 0) (pa_cons pe_int pa_nil))))
      (pss_one (ps_if (pt_cmpR op_eq (pv 5) pe_int (nomark _)) (pss_one (ps_expr (pe_bm PySem.F.plainAttrs_list PySem.F.slot_list_append PySem.F.type_list_append mt_append (pv 3) (pa_cons pe_str pa_nil)))) (pss_one (ps_if (pt_cmpR op_eq (pv 5) pe_int (nomark _)) (pss_one (ps_expr (pe_bm PySem.F.plainAttrs_list PySem.F.slot_list_append PySem.F.type_list_append mt_append (pv 3) (pa_cons pe_str pa_nil)))) (pss_one (ps_if (pt_cmpR op_lt (pv 5) pe_int (nomark _)) (pss_one (ps_expr (pe_bm PySem.F.plainAttrs_list PySem.F.slot_list_append PySem.F.type_list_append mt_append (pv 3) (pa_cons (pe_call G_pick (hr.mono (by omega)) (by rfl) D_pick.g D_pick.F.kp D_pick.b .nil pass0 (pa_cons (pv 0) (pa_cons pe_str pa_nil))) pa_nil)))) (pss_one (ps_expr (pe_bm PySem.F.plainAttrs_list PySem.F.slot_list_append PySem.F.type_list_append mt_append (pv 3) (pa_cons (pe_call G_pick (hr.mono (by omega)) (by rfl) D_pick.g D_pick.F.kp D_pick.b .nil pass0 (pa_cons (pv 0) (pa_cons (pe_call0 G_signsoftexts (hr.mono (by omega)) (by rfl) D_signsoftexts.g D_signsoftexts.F.kp D_signsoftexts.b .nil pass0) pa_nil))) pa_nil))))))))))))
      (pss_one (ps_ret (pe_m1 PySem.F.slot_str_join PySem.F.type_str_join (mt_joinK (K := K)) pe_str (pv 3))))))), ?_⟩
    walk_at "st"
    refine ⟨a, c, 0, hi, rfl, S, h0, by omega, fun v H1 S1 b1 ⟨many, e, m0, m1⟩ => ?_⟩
    subst e
    walk_at "st"
    refine ⟨by decide, fun p np => ?_⟩
    have pa := S1.ne1 np
    have pc := S1.ne2 np
    walk_at "st"
    refine ⟨by omega, by omega, ?_⟩
    refine r_range (fun i σ H' => (∃ x y : Option V, σ = [some (.ref a), some (.int hi), some (.int many), some (.ref p), x, y]) ∧ StoreAt H' a c ∧ But a H1 H' ∧ ∃ ws : List Str, ws.length = i ∧ (∀ x ∈ ws, x.length = 1) ∧ H' p = some (.lst (ws.map V.str)))
      ⟨⟨_, _, rfl⟩, S1.new np, But.new np, [], rfl, by simp, upd_same⟩ ?_ ?_
    · rintro i σ H2 hi2 ⟨⟨x, y, rfl⟩, S2, b2, ws, hl, h1s, hp⟩ N k
      walk_at "st"
      refine ⟨a, c, _, rfl, S2, by decide, fun v H3 S3 b3 ⟨r, e, r0, r1⟩ => ?_⟩
      subst e
      have hp3 := b3 p _ pa hp
      have fin : ∀ (H4 : Hp) (z : Str) (x y : Option V), StoreAt H4 a c → But a H3 H4 → z.length = 1 → H4 p = some (.lst (ws.map V.str)) → N [some (.ref a), some (.int hi), some (.int many), some (.ref p), x, y] (L2.upd H4 p (.lst (ws.map V.str ++ [.str z]))) := fun H4 z x y S4 b4 hz hp4 =>
        k _ _ ⟨⟨_, _, rfl⟩, S4.put pa pc, ((b2.trans b3).trans b4).putNew np, ws ++ [z], by rw [List.length_append, hl]; rfl, fun x hx => by
            rcases List.mem_append.mp hx with hx | hx
            · exact h1s x hx
            · rw [List.mem_singleton.mp hx]; exact hz, by rw [upd_same, List.map_append]; rfl⟩
      have hsz : (ws.map V.str).length < sizeLine := size_ok (by rw [List.length_map]; omega)
      walk_at "rt"
      refine ite2 (fun _ => ⟨.inl ⟨rfl, _, sq_of hp3⟩, _, hp3, hsz, fin H3 _ _ _ S3 (But.refl _ _) (by decide +kernel) hp3⟩) (fun _ => ite2 (fun _ => ⟨.inl ⟨rfl, _, sq_of hp3⟩, _, hp3, hsz, fin H3 _ _ _ S3 (But.refl _ _) (by decide +kernel) hp3⟩) (fun _ => ite2 (fun _ => ⟨.inl ⟨rfl, _, sq_of hp3⟩, ?_⟩) (fun _ => ⟨.inl ⟨rfl, _, sq_of hp3⟩, ?_⟩)))
      · refine ⟨a, c, _, rfl, S3, by decide +kernel, by decide +kernel, fun v H4 S4 b4 ⟨k', _, e⟩ => ?_⟩
        subst e
        walk_at "rt"
        exact ⟨_, b4 p _ pa hp3, hsz, fin H4 _ _ _ S4 b4 rfl (b4 p _ pa hp3)⟩
      · refine ⟨rfl, fun z hz hzl => ?_⟩
        refine ⟨a, c, _, rfl, S3, hz, hzl, fun v H4 S4 b4 ⟨k', _, e⟩ => ?_⟩
        subst e
        walk_at "rt"
        exact ⟨_, b4 p _ pa hp3, hsz, fin H4 _ _ _ S4 b4 rfl (b4 p _ pa hp3)⟩
    · rintro σ H2 ⟨⟨x, y, rfl⟩, S2, b2, ws, hl, h1s, hp⟩
      have hj := join0_len tl_emp h1s
      walk_at "rt"
      refine ⟨ws, sq_of hp, ?_, q _ _ S2 (b1.trans b2) ⟨_, rfl, by omega⟩⟩
      have e : (Str.ofString "").length = 0 := by decide +kernel
      rw [e, sum_ones ws h1s]
      omega
end
end K01
namespace K01
open PySem PySem.Spec PyProof.Rows L2 TL
local macro_rules | `(tactic| walk_at "rd") => `(tactic| simp only [start1, wipe, isR, isBool, isInt, isStr, isLst, isTup, tAsg, gName, gSub, tVar, tC, tOp, tUn, tTest, tIfS, tRet, tRetN, tDrop, tB, tAnd, tOr, tNot, tAndV, tOrV, tNotV, tIf, tCB, tCons, tNil, tNext, tCall, tBM, tTup, tLst, rI0, rI, rEq, rNe, scal, forR_eq, forR2_eq, forS_eq, forL_eq, lcL_eq, lcR_eq, lcS_eq, rLenX, rLenS, rAllK, rInSg, rNinSg, sgn_inj, rAddS, rInSt, tChain, tM1, tM0, rSplitN, rJoinN, exists_eq, rIntI, rIntB, rIntS, rStrI, rAbs, rOrd, rMin, rMax, rIxL, rIxX, rSetL, rAppend, rIxS, rSlS, rSlL, tSl, List.map_cons, List.map_nil, List.replicate_succ, List.replicate_zero, List.length_cons, List.length_nil, Nat.reduceSub, Nat.reduceAdd, Nat.zero_add, Nat.sub_self, List.getElem?_cons_zero, List.getElem?_cons_succ, List.set_cons_zero, List.set_cons_succ, List.append_nil, List.nil_append, List.cons_append, Option.some.injEq, exists_eq_left', exists_eq_left, exists_eq', exists_and_left, exists_and_right, V.int.injEq, V.str.injEq, V.bl.injEq, V.ref.injEq, List.cons.injEq, and_true, true_and, and_assoc, decide_eq_true_eq, Bool.not_eq_true', decide_eq_false_iff_not, ite_true, ite_false, if_true, if_false, Bool.not_true, Bool.not_false, Bool.false_eq_true, eq_self_iff_true, reduceIte, ne_eq, Int.reduceEq, not_false_eq_true])
local macro_rules | `(tactic| walk_at "rt") => `(tactic| try walk_at "rd")
local macro_rules | `(tactic| walk_at "st") => `(tactic| (walk_at "rt"; refine r_seq ?_; walk_at "rt"))
local macro_rules | `(tactic| walk_at "hp") => `(tactic| first | assumption | exact upd_same | (rw [upd_ne (by assumption)]; walk_at "hp"))
local macro_rules | `(tactic| walk_at "ex1") => `(tactic| ((with_reducible refine Exists.intro ?w (And.intro ?hx ?_)); (case hx => first | exact sq_of (by walk_at "hp") | exact .inl (sq_of (by walk_at "hp")) | exact rfl | (show _ = some (HO.lst _); walk_at "hp"))))
local macro_rules | `(tactic| walk_at "ex") => `(tactic| repeat (first | walk_at "ex1" | walk_at "rd"))
abbrev s_put : Stmt := topS 23
theorem sc_put : FnScope ["lines", "text", "k", "j"] ["lines"] (defScope s_put) := ⟨rfl, rfl, rfl, by decide +kernel, rfl, by decide +kernel, by decide +kernel⟩
abbrev s_plain : Stmt := topS 24
theorem sc_plain : FnScope ["lines", "line", "word"] ["lines"] (defScope s_plain) := ⟨rfl, rfl, rfl, by decide +kernel, rfl, by decide +kernel, by decide +kernel⟩
theorem str_len (x y : Str) : (x ++ y).length = x.length + y.length := by rw [len_tl, tl_append, List.length_append, ← len_tl, ← len_tl]
theorem str_assoc (x y z : Str) : x ++ y ++ z = x ++ (y ++ z) := ext_tl (by rw [tl_append, tl_append, tl_append, tl_append, List.append_assoc])
theorem joinL_snoc (S : List Nat) : ∀ (ps : List (List Nat)) (p : List Nat), ps ≠ [] → joinL S (ps ++ [p]) = joinL S ps ++ S ++ p
  | [], _, h => absurd rfl h
  | [q], p, _ => by
    show q ++ (S ++ p) = q ++ S ++ p
    rw [List.append_assoc]
  | q :: r :: t, p, _ => by
    have ih := joinL_snoc S (r :: t) p (by simp)
    show q ++ (S ++ joinL S ((r :: t) ++ [p])) = q ++ (S ++ joinL S (r :: t)) ++ S ++ p
    rw [ih]
    simp only [List.append_assoc]
theorem join_step (y : Str) {ws : List Str} {j : Nat} {x : Str} (h : ws[j]? = some x) : Txt.join y (ws.take (j + 1)) = (if 0 < j then Txt.join y (ws.take j) ++ y else Txt.join y (ws.take j)) ++ x := by
  have hj := lt_of_get h
  rw [List.take_add_one, h]
  refine ext_tl ?_
  by_cases h0 : 0 < j
  · rw [if_pos h0, tl_append, tl_append, join_eq, join_eq, tl_join, tl_join, List.map_append]
    refine joinL_snoc _ _ _ fun e => ?_
    have h1 : ((ws.take j).map tl).length = 0 := by rw [e]; rfl
    rw [List.length_map, List.length_take] at h1
    omega
  · have e : j = 0 := by omega
    subst e
    rw [if_neg h0, tl_append, join_eq, join_eq, tl_join, tl_join]
    rfl
theorem sum_take (f : Str → Nat) : ∀ (ws : List Str) (j : Nat), ((ws.take j).map f).sum ≤ (ws.map f).sum
  | [], j => by rw [List.take_nil]; exact Nat.le_refl _
  | x :: r, 0 => Nat.zero_le _
  | x :: r, j + 1 => by
    have := sum_take f r j
    rw [List.take_succ_cons, List.map_cons, List.map_cons, List.sum_cons, List.sum_cons]
    omega
theorem join_le {y : Str} {s : Nat} (ey : tl y = [s]) (ps : List Str) : (Txt.join y ps).length ≤ (ps.map (·.length)).sum + ps.length := by
  cases ps with
  | nil => exact Nat.le_of_eq (by rw [join_eq]; rfl)
  | cons x r =>
    have := join_len ey (x :: r) (by simp)
    omega
theorem row_le (ws : List Str) (j : Nat) : (Txt.join sp (ws.take j)).length ≤ (ws.map (·.length)).sum + ws.length := by
  have h1 := join_le tl_sp (ws.take j)
  have h2 := sum_take (fun x => x.length) ws j
  have h3 := List.length_take_le j ws
  have h4 : (ws.take j).length ≤ ws.length := by rw [List.length_take]; exact Nat.min_le_right _ _
  omega
theorem joinW_len (ls : Lines) (i : Nat) : (joinW (ls.take i)).length ≤ totW ls := by
  have h1 := join_le tl_nl ((ls.take i).map fun ws => Txt.join sp ws)
  have h2 := joinW_le ls
  have h3 : ((ls.take i).map fun ws => Txt.join sp ws) = (ls.map fun ws => Txt.join sp ws).take i := by rw [List.map_take]
  have h4 := sum_take (fun x => x.length) (ls.map fun ws => Txt.join sp ws) i
  have h5 : ((ls.map fun ws => Txt.join sp ws).take i).length ≤ ls.length := by rw [List.length_take, List.length_map]; exact Nat.min_le_right _ _
  show (Txt.join nl ((ls.take i).map fun ws => Txt.join sp ws)).length ≤ _
  rw [h3] at h1 ⊢
  omega
theorem joinW_step {ls : Lines} {i : Nat} {ws : List Str} (h : ls[i]? = some ws) : joinW (ls.take (i + 1)) = (if 0 < i then joinW (ls.take i) ++ nl else joinW (ls.take i)) ++ Txt.join sp ws := by
  have hm : (ls.map fun ws => Txt.join sp ws)[i]? = some (Txt.join sp ws) := by rw [List.getElem?_map, h]; rfl
  have := join_step nl hm
  unfold joinW
  rw [List.map_take, List.map_take]
  exact this
theorem one_nl : (Str.ofString "\n").length = 1 := by decide +kernel
theorem one_sp : (Str.ofString " ").length = 1 := by decide +kernel
def spPut : Sp := fun vs H Q _ => ∃ (v : V) (A : Addr → Prop) (ls : Lines), vs = [v] ∧ At H A (linesD ls) v ∧ totW ls ≤ 1000000 ∧ Q (.str (joinW ls)) H
def plainB (ls : Lines) : Bool := !ls.isEmpty && ls.all fun ws => !ws.isEmpty && ws.all fun x => !decide (32 ∈ tl x) && !decide (10 ∈ tl x)
theorem plainB_iff (ls : Lines) : plainB ls = true ↔ plainW ls := by
  unfold plainB plainW
  simp only [Bool.and_eq_true, List.all_eq_true, Bool.not_eq_true', decide_eq_false_iff_not, List.isEmpty_eq_false_iff]
def spPlain : Sp := fun vs H Q _ => ∃ (v : V) (A : Addr → Prop) (ls : Lines), vs = [v] ∧ At H A (linesD ls) v ∧ Q (.bl (plainB ls)) H
section
variable {P : Program} {w : World} {K : PySem.W.Frag} {mg : Str → Option Value} {base : Heap}
theorem ok_put {f : Addr} {fd : FuncData} (B : Bi mg) (D : Dn K mg "_law_put" s_put ["lines"] f fd) : FnOk P w K mg base CX0 1 f fd ["lines"] spPut := by
  refine D.F.ok sc_put (fun vs H Q E h => ?_) (fun cdv A outer s H vs Q E hr h => ?_)
  · obtain ⟨v, A, ls, rfl, _⟩ := h
    rfl
  · obtain ⟨v, A1, ls, rfl, hd, ht, q⟩ := h
    obtain ⟨a, rs, rfl, _, ha, hrl, hl, hrs⟩ := at_lines hd
    refine ⟨_, (pss_cons (ps_set (i := 1) sc_put.nd rfl (.inl rfl) pe_str)
      (pss_cons (ps_for PassesOwn.never rfl (pi_range1 (by rfl) B.range (pa_cons (pe_callB (call_lenXK (K := K)) (by rfl) B.len PySem.boot_len (pa_cons (pv 0) pa_nil)) pa_nil)) (pg_name (i := 2) sc_put.nd rfl (.inl rfl)) (C8.pss_cut (ps_if (pt_cmpR op_gt (pv 2) pe_int (nomark _)) (pss_one (ps_set (i := 1) sc_put.nd rfl (.inl rfl) (pe_op op_addS (pv 1) pe_str))) pss_nil)
      (pss_one (ps_for PassesOwn.never rfl (pi_range1 (by rfl) B.range (pa_cons (pe_callB (call_lenXK (K := K)) (by rfl) B.len PySem.boot_len (pa_cons (pe_ix (ix_listK (K := K)) (pv 0) (pv 2) (fun _ _ => rfl)) pa_nil)) pa_nil)) (pg_name (i := 3) sc_put.nd rfl (.inl rfl)) (C8.pss_cut (ps_if (pt_cmpR op_gt (pv 3) pe_int (nomark _)) (pss_one (ps_set (i := 1) sc_put.nd rfl (.inl rfl) (pe_op op_addS (pv 1) pe_str))) pss_nil)
      (pss_one (ps_set (i := 1) sc_put.nd rfl (.inl rfl) (pe_op op_addS (pv 1) (pe_ix (ix_listK (K := K)) (pe_ix (ix_listK (K := K)) (pv 0) (pv 2) (fun _ _ => rfl)) (pv 3) (fun _ _ => rfl))))))))))
      (pss_one (ps_ret (pv 1))))), ?_⟩
    walk_at "st"
    walk_at "st"
    refine ⟨_, .inl (sq_of ha), by rw [List.length_map]; omega, by rw [List.length_map]; omega, ?_⟩
    refine r_range (fun i σ H' => (∃ x y : Option V, σ = [some (.ref a), some (.str (joinW (ls.take i))), x, y]) ∧ H' = H) ⟨⟨_, _, rfl⟩, rfl⟩ ?_ ?_
    · rintro i σ H' hi ⟨⟨x, y, rfl⟩, rfl⟩ N k
      have hi2 : i < rs.length := by rw [List.length_map] at hi; omega
      obtain ⟨r, hr1⟩ : ∃ r, rs[i]? = some r := ⟨_, List.getElem?_eq_getElem hi2⟩
      obtain ⟨ws, hws⟩ : ∃ ws, ls[i]? = some ws := ⟨_, List.getElem?_eq_getElem (by omega)⟩
      obtain ⟨_, hw, hwl⟩ := hrs i r ws hr1 hws
      have htw := totW_row (List.mem_of_getElem? hws)
      have hjl := joinW_len ls i
      have e0 : (0 : Int) + (i : Int) = (i : Int) := Int.zero_add _
      have a1 : atI (rs.map V.ref) (i : Int) = some (.ref r) := atI_nat (by rw [List.getElem?_map, hr1]; rfl)
      have ejs := joinW_step hws
      generalize hb : (if 0 < i then joinW (ls.take i) ++ nl else joinW (ls.take i)) = b at ejs
      have hbl : b.length ≤ totW ls + 1 := by
        rw [← hb]
        split
        · rw [str_len, show nl.length = 1 from one_nl]; omega
        · omega
      walk_at "rt"
      refine r_cut (fun σ' H2 => (∃ y : Option V, σ' = [some (.ref a), some (.str b), some (.int (i : Int)), y]) ∧ H2 = H') (fun N2 k2 => ?_) ?_
      · walk_at "rt"
        rw [e0]
        refine ite2 (fun h0 => ⟨?_, k2 _ _ ⟨⟨y, ?_⟩, rfl⟩⟩) (fun h0 => k2 _ _ ⟨⟨y, ?_⟩, rfl⟩)
        · rw [one_nl]; exact line_of (by omega)
        · rw [if_pos (by omega)] at hb
          rw [← hb]
          rfl
        · rw [if_neg (by omega)] at hb
          rw [← hb]
      · rintro σ' H2 ⟨⟨y, rfl⟩, rfl⟩
        walk_at "rt"
        refine ⟨_, sq_of ha, _, a1, _, rfl, _, .inl (sq_of hw), by rw [List.length_map]; omega, by rw [List.length_map]; omega, ?_⟩
        refine r_range (fun j σ H' => (∃ y : Option V, σ = [some (.ref a), some (.str (b ++ Txt.join sp (ws.take j))), some (.int (i : Int)), y]) ∧ H' = H2) ⟨⟨y, ?_⟩, rfl⟩ ?_ ?_
        · have e : b ++ Txt.join sp (ws.take 0) = b := ext_tl (by rw [tl_append, join_eq, tl_join]; exact List.append_nil _)
          rw [e]
        · rintro j σ H3 hj ⟨⟨y, rfl⟩, rfl⟩ N3 k3
          have hj2 : j < ws.length := by rw [List.length_map] at hj; omega
          obtain ⟨x, hx⟩ : ∃ x, ws[j]? = some x := ⟨_, List.getElem?_eq_getElem hj2⟩
          have a2 : atI (ws.map V.str) (j : Int) = some (.str x) := atI_nat (by rw [List.getElem?_map, hx]; rfl)
          have e1 : (0 : Int) + (j : Int) = (j : Int) := Int.zero_add _
          have hrl1 := row_le ws j
          have hxl := sum_le_of (fun x : Str => x.length) ws x (List.mem_of_getElem? hx)
          have ejr := join_step sp hx
          generalize hb2 : (if 0 < j then Txt.join sp (ws.take j) ++ sp else Txt.join sp (ws.take j)) = b2 at ejr
          have hb2l : b2.length ≤ totW ls + 1 := by
            rw [← hb2]
            split
            · rw [str_len, show sp.length = 1 from one_sp]; omega
            · omega
          walk_at "rt"
          refine r_cut (fun σ' H4 => σ' = [some (.ref a), some (.str (b ++ b2)), some (.int (i : Int)), some (.int (j : Int))] ∧ H4 = H3) (fun N4 k4 => ?_) ?_
          · walk_at "rt"
            rw [e1]
            refine ite2 (fun h0 => ⟨?_, k4 _ _ ⟨?_, rfl⟩⟩) (fun h0 => k4 _ _ ⟨?_, rfl⟩)
            · rw [one_sp, str_len]; exact line_of (by omega)
            · rw [if_pos (by omega)] at hb2
              rw [← hb2, ← str_assoc]
              rfl
            · rw [if_neg (by omega)] at hb2
              rw [← hb2]
          · rintro σ' H4 ⟨rfl, rfl⟩
            walk_at "rt"
            refine ⟨_, sq_of ha, _, a1, _, rfl, _, sq_of hw, _, a2, _, rfl, ?_, k3 _ _ ⟨⟨some (.int (j : Int)), ?_⟩, rfl⟩⟩
            · rw [str_len]; exact line_of (by omega)
            · rw [ejr, str_assoc]
        · rintro σ H3 ⟨⟨y, rfl⟩, rfl⟩
          have e2 : ws.take ((((ws.map V.str).length : Nat) : Int).toNat) = ws := by
            rw [List.length_map]
            exact List.take_of_length_le (by omega)
          rw [e2]
          exact k _ _ ⟨⟨some (.int (i : Int)), y, by rw [ejs]⟩, rfl⟩
    · rintro σ H' ⟨⟨x, y, rfl⟩, rfl⟩
      have e2 : ls.take ((((rs.map V.ref).length : Nat) : Int).toNat) = ls := by
        rw [List.length_map]
        exact List.take_of_length_le (by omega)
      rw [e2]
      walk_at "rt"
      exact q
theorem ok_plain {f : Addr} {fd : FuncData} (B : Bi mg) (D : Dn K mg "_law_plain" s_plain ["lines"] f fd) : FnOk P w K mg base CX0 1 f fd ["lines"] spPlain := by
  refine D.F.ok sc_plain (fun vs H Q E h => ?_) (fun cdv A outer s H vs Q E hr h => ?_)
  · obtain ⟨v, A, ls, rfl, _⟩ := h
    rfl
  · obtain ⟨v, A1, ls, rfl, hd, q⟩ := h
    have hd' := hd
    obtain ⟨a, rs, rfl, _, ha, hrl, hl, hrs⟩ := at_lines hd
    refine ⟨_, (pss_cons (ps_if (PW.pt (pw_or (pt_not (pt_val (pe_callB call_is_list (by rfl) B.isinstance (by decide +kernel) (pa_cons (pv 0) (pa_cons (pe_bltn (v := .ty "list") (by rfl) B.list_ (by decide +kernel) rfl) pa_nil))))) (pw_or1 (pt_cmpR op_eq (pe_callB (call_lenXK (K := K)) (by rfl) B.len PySem.boot_len (pa_cons (pv 0) pa_nil)) pe_int (nomark _))))) (pss_one (ps_ret pe_bl)) pss_nil)
      (pss_cons (ps_for PassesOwn.never rfl (pi_listK (K := K) (pv 0)) (pg_name (i := 1) sc_plain.nd rfl (.inl rfl)) (pss_cons (ps_if (PW.pt (pw_or (pt_not (pt_val (pe_callB call_is_list (by rfl) B.isinstance (by decide +kernel) (pa_cons (pv 1) (pa_cons (pe_bltn (v := .ty "list") (by rfl) B.list_ (by decide +kernel) rfl) pa_nil))))) (pw_or1 (pt_cmpR op_eq (pe_callB (call_lenXK (K := K)) (by rfl) B.len PySem.boot_len (pa_cons (pv 1) pa_nil)) pe_int (nomark _))))) (pss_one (ps_ret pe_bl)) pss_nil)
      (pss_one (ps_for PassesOwn.never rfl (pi_listK (K := K) (pv 1)) (pg_name (i := 2) sc_plain.nd rfl (.inl rfl)) (pss_one (ps_if (PW.pt (pw_or (pt_not (pt_val (pe_callB call_is_str (by rfl) B.isinstance (by decide +kernel) (pa_cons (pv 2) (pa_cons (pe_bltn (v := .ty "str") (by rfl) B.str_ (by decide +kernel) rfl) pa_nil))))) (pw_or (pt_cmpR op_inSg pe_str (pv 2) (by rfl)) (pw_or1 (pt_cmpR op_inSg pe_str (pv 2) (by rfl)))))) (pss_one (ps_ret pe_bl)) pss_nil))))))
      (pss_one (ps_ret pe_bl)))), ?_⟩
    let okw : Str → Bool := fun x => !decide (32 ∈ tl x) && !decide (10 ∈ tl x)
    let good : List Str → Bool := fun ws => !ws.isEmpty && ws.all okw
    have bad : ∀ (i : Nat) (ws : List Str), ls[i]? = some ws → good ws = false → Q (.bl false) H := fun i ws h hg => by
      have e : plainB ls = false := by
        cases e : plainB ls with
        | false => rfl
        | true =>
          unfold plainB at e
          rw [Bool.and_eq_true, List.all_eq_true] at e
          have := e.2 ws (List.mem_of_getElem? h)
          rw [show (!ws.isEmpty && ws.all fun x => !decide (32 ∈ tl x) && !decide (10 ∈ tl x)) = good ws from rfl, hg] at this
          cases this
      rw [e] at q
      exact q
    walk_at "st"
    refine ⟨A1, _, hd', ?_⟩
    simp only [linesD]
    walk_at "rt"
    refine ⟨_, .inl (sq_of ha), ite2 (fun h0 => ?_) (fun h0 => ?_)⟩
    · have e : plainB ls = false := by
        have : ls = [] := List.length_eq_zero_iff.mp (by rw [List.length_map] at h0; omega)
        rw [this]
        rfl
      rw [e] at q
      exact q
    walk_at "st"
    refine ⟨⟨_, sq_of ha⟩, ?_⟩
    refine r_list (K := K) (rs.map V.ref) (fun i σ H' => (∃ x y : Option V, σ = [some (.ref a), x, y]) ∧ H' = H ∧ (ls.take i).all good = true) ⟨⟨_, _, rfl⟩, rfl, rfl⟩ (fun i σ H' _ h => by rw [h.2.1]; exact sq_of ha) ?_ ?_
    · rintro i v σ H' hv ⟨⟨x, y, rfl⟩, rfl, hall⟩ N k
      obtain ⟨r, hr1, rfl⟩ := map_get hv
      have hi2 := lt_of_get hr1
      obtain ⟨ws, hws⟩ : ∃ ws, ls[i]? = some ws := ⟨_, List.getElem?_eq_getElem (by omega)⟩
      obtain ⟨hA, hw, hwl⟩ := hrs i r ws hr1 hws
      have hat : At H' A1 (strsD ws) (.ref r) := ⟨r, _, rfl, hA, hw, by rw [List.length_map]; exact hwl, atL_of ws⟩
      have next : ws ≠ [] → ws.all okw = true → ∀ (y : Option V), N [some (.ref a), some (.ref r), y] H' := fun h1 h2 y => k _ _ ⟨⟨_, _, rfl⟩, rfl, by
        rw [List.take_add_one, hws, List.all_append, hall]
        show (true && ([ws].all good)) = true
        have : good ws = true := by
          show (!ws.isEmpty && ws.all okw) = true
          rw [h2, Bool.and_true, Bool.not_eq_true', List.isEmpty_eq_false_iff]
          exact h1
        simp [this]⟩
      walk_at "st"
      refine ⟨A1, _, hat, ?_⟩
      simp only [strsD]
      walk_at "rt"
      refine ⟨_, .inl (sq_of hw), ite2 (fun h0 => ?_) (fun h0 => ?_)⟩
      · refine bad i ws hws ?_
        have : ws = [] := List.length_eq_zero_iff.mp (by rw [List.length_map] at h0; omega)
        rw [this]
        rfl
      have hne : ws ≠ [] := fun e => h0 (by rw [e]; rfl)
      walk_at "rt"
      refine ⟨⟨_, sq_of hw⟩, ?_⟩
      refine r_list (K := K) (ws.map V.str) (fun j σ H2 => (∃ y : Option V, σ = [some (.ref a), some (.ref r), y]) ∧ H2 = H' ∧ (ws.take j).all okw = true) ⟨⟨y, rfl⟩, rfl, rfl⟩ (fun j σ H2 _ h => by rw [h.2.1]; exact sq_of hw) ?_ ?_
      · rintro j v σ H2 hv ⟨⟨y, rfl⟩, rfl, hallj⟩ N2 k2
        obtain ⟨x, hx, rfl⟩ := map_get hv
        have badw : okw x = false → Q (.bl false) H2 := fun h => bad i ws hws (by
          show (!ws.isEmpty && ws.all okw) = false
          have : ws.all okw = false := by
            cases e : ws.all okw with
            | false => rfl
            | true =>
              have := List.all_eq_true.mp e x (List.mem_of_getElem? hx)
              rw [h] at this
              cases this
          rw [this, Bool.and_false])
        walk_at "rt"
        refine ⟨A1, .str x, rfl, ?_⟩
        walk_at "rt"
        refine ⟨32, by decide +kernel, ite2 (fun h1 => badw ?_) (fun h1 => ⟨10, by decide +kernel, ite2 (fun h2 => badw ?_) (fun h2 => k2 _ _ ⟨⟨some (.str x), rfl⟩, rfl, ?_⟩)⟩)⟩
        · show (!decide (32 ∈ tl x) && !decide (10 ∈ tl x)) = false
          rw [decide_eq_true h1]
          rfl
        · show (!decide (32 ∈ tl x) && !decide (10 ∈ tl x)) = false
          rw [decide_eq_true h2, Bool.and_comm]
          rfl
        · rw [List.take_add_one, hx, List.all_append, hallj]
          show (true && ([x].all okw)) = true
          have : okw x = true := by
            show (!decide (32 ∈ tl x) && !decide (10 ∈ tl x)) = true
            rw [decide_eq_false h1, decide_eq_false h2]
            rfl
          simp [this]
      · rintro σ H2 ⟨⟨y, rfl⟩, rfl, hallj⟩
        rw [List.length_map, List.take_length] at hallj
        exact next hne hallj y
    · rintro σ H' ⟨⟨x, y, rfl⟩, rfl, hall⟩
      rw [List.length_map, hrl, List.take_length] at hall
      walk_at "rt"
      have e : plainB ls = true := by
        unfold plainB
        rw [show (ls.all fun ws => !ws.isEmpty && ws.all fun x => !decide (32 ∈ tl x) && !decide (10 ∈ tl x)) = ls.all good from rfl, hall, Bool.and_true, Bool.not_eq_true', List.isEmpty_eq_false_iff]
        intro e
        exact h0 (by rw [List.length_map, hrl, e]; rfl)
      rw [e] at q
      exact q
end
end K01
namespace K01
open PySem PySem.Spec PyProof.Rows L2
/-! ### where a token is out -/
theorem okT {P : Program} {w : World} {K : PySem.W.Frag} {mg : Str → Option Value} {base : Heap} {x qual : Str} {st : Stmt} {f : Addr} {fd : FuncData} {N ps : List Str} {k : Nat} {sp : Sp} (F : Fun K x qual st f fd) (S : FnScope N ps (defScope st))
    (nc : ∀ y ∈ (defScope st).names, y.2 ≠ .cell) (one : 1 ≤ ps.length) (ln : ∀ vs H Q E, sp vs H Q E → vs.length = ps.length)
    (body : ∀ (cv : Value) (A : Around) (ou : List Env) (s : Shared) (H : Hp) (vs : List V) (Q : VK) (E : XK), Room k (A.deeper (envOfC qual (defScope st) s.heap.objs.size f cv)) → sp vs H Q E →
      ∃ t, PSsT (cxOf CX0 P w K mg base N qual (defScope st) f cv A ou s H E) (defBody st) t ∧ t { nx := fun _ H' => Q .non H', rt := Q } (L2.start N vs) H) : FnOk P w K mg base CX0 (k + 1) f fd ps sp := by
  obtain ⟨oc, od, kV, doc, pm, an, cv, ct, osl, e, lk, hcd⟩ := F.ex
  subst e
  exact fn_ofT lk hcd S nc one ln fun A ou s H vs Q E hr hs => body cv A ou s H vs Q E hr hs
section
variable {X : Cx}
structure PA1 (X : Cx) (es : List Expr) (t : TA) : Prop where
  go : ∀ (ps : Pos) (pn : List (Addr × Obj)) (s : Shared) (σ : L2.St) (H : Hp) (Q : List V → Hp → Prop), Inv X pn σ H s → t σ H Q →
    wpAny (model X.prog X.w) X.A (spliced (backTo ps (starEach es X.env))) (fun us s' => 1 ≤ s'.toks ∧ AP X pn σ Q us s') X.xe s
theorem pa1_int {i : Int} {j : Nat} {ps : Pos} (hs : starEach [.Constant (.int i) j ps] X.env = [(false, eval (.Constant (.int i) j ps) X.env)] := by rfl) : PA1 X [.Constant (.int i) j ps] (tCons (tC (.int i)) tNil) := by
  refine ⟨fun p0 pn s σ H Q J h => ?_⟩
  rw [hs]
  refine Calls.spliced_cons (wpAny_Constant_int (pos := ps) (k := j) ?_)
  refine Calls.spliced_nil ?_
  exact ⟨by show 1 ≤ s.toks + 1; omega, [.int i], H, J.tok _, .cons ⟨_, rfl⟩ .nil, h⟩
theorem pa1_cons {e : Expr} {es : List Expr} {te : TE} {t : TA} (ha : PE X e te) (hr : PA1 X es t) (hs : starEach (e :: es) X.env = (false, eval e X.env) :: starEach es X.env := by rfl) : PA1 X (e :: es) (tCons te t) := by
  refine ⟨fun p0 pn s σ H Q J h => ?_⟩
  rw [hs]
  refine Calls.spliced_cons (thn (ha.run pn s σ H _ J h) fun u s1 g => ?_)
  obtain ⟨x, H1, J1, rx, q⟩ := g
  refine thn (hr.go p0 pn s1 σ H1 _ J1 q) fun us s2 g => ?_
  obtain ⟨ht, xs, H2, J2, r2, q2⟩ := g
  exact ⟨ht, x :: xs, H2, J2, .cons rx r2, q2⟩
structure PS1 (X : Cx) (st : Stmt) (t : TS) : Prop where
  go : ∀ (pn : List (Addr × Obj)) (s : Shared) (σ : L2.St) (H : Hp) (D : Ends), Inv X pn σ H s → t D σ H → wpAny (model X.prog X.w) X.A (exec st X.env) (fun fl s' => 1 ≤ s'.toks ∧ SP X pn D fl s') X.xe s
theorem ps1_call {CX : CXT} {k i : Nat} {f : Addr} {fd : FuncData} {ps : List Str} {sp : Sp} {dvs : List V} {ds : List Value} {E : XK} {x y : Str} {p p2 pos pos2 : Pos} {e : Expr} {es : List Expr} {t : TA}
    (hN : X.N.Nodup) (hi : X.N[i]? = some y) (hy : Loc X.env.scope y) (F : FnOk X.prog X.w X.K X.mg X.base CX k f fd ps sp) (hr : Room k X.A) (hg : Gl X x) (hm : X.mg x = some (.ref f)) (hk : PySem.W.keepIn X.K (.ref f) = true) (hb : Binds X.K fd ps ds) (hd : Vals dvs ds) (hx : Passes CX X E)
    (ha : PA1 X (e :: es) t) (hdb : (x == ("__debug__" : Str)) = false := by decide) (he : starEach (e :: es) X.env = (false, eval e X.env) :: starEach es X.env := by rfl) (hpl : (backTo pos (starEach es X.env)).any (·.1) = false := by rfl)
    (hs : swapsWith (.Call (.Name x p) (e :: es) [] pos) (some (.Name y p2)) pos2.line X.env = pure false := by rfl) (hf : X.fn y = true ∨ X.env.scope.names.lookup y = some .local := by first | exact .inl rfl | exact .inr rfl | assumption) :
    PS1 X (.Assign [.Name y p2] (.Call (.Name x p) (e :: es) [] pos) pos2) (tAsg (tCall sp dvs E t) (gName i)) := by
  refine ⟨fun pn s σ H D J h => ?_⟩
  refine wpAny_Assign_Name (Q := fun fl s' => 1 ≤ s'.toks ∧ SP X pn D fl s') (wpAny_mono (Q := fun v s2 => 1 ≤ s2.toks ∧ EP X pn σ (fun v H1 => D.nx (σ.set i (some v)) H1) v s2) (wpAny_Call_Name_kw (ld_glob J hg hm ?_ hdb)) (fun v s2 g => ?_) fun _ _ z => z) hs
  · refine PySem.W.callWith_K (h₀ := X.base) J.ok.mod.kin hk (thn (ha.go pos pn s σ H _ J h) fun us s1 g => ?_) he hpl
    obtain ⟨ht, vs, H1, J1, r, q⟩ := g
    exact ⟨J1.kIn, wpAny_mono (wpAny_toks_of ht (run_fn F hr hb hd hx J1 r q)) (fun _ _ z => z) fun _ _ z => z.2⟩
  · obtain ⟨ht, v', H1, J1, rv, q⟩ := g
    exact wpAny_mono (wpAny_toks_of ht (store_ok J1 hN hi hy rv (fun s3 J3 => (⟨_, H1, J3, q⟩ : SP X pn D .next s3)) hf)) (fun _ _ z => z) fun _ _ z => z.2
/-- the first statement gives out a token -/
theorem pss_tok {st : Stmt} {rest : List Stmt} {t u : TS} (h1 : PS1 X st t) (h2 : PSsT X rest u) : PSs X (st :: rest) (tSeq t u) := by
  refine ⟨fun pn s σ H D J h => ?_⟩
  refine wpAny_execs_cons (thn (h1.go pn s σ H { D with nx := u D } J h) fun fl s1 g => ?_)
  obtain ⟨ht, g⟩ := g
  cases fl with
  | ret v => exact g
  | brk => exact g
  | cont => exact g
  | next =>
    obtain ⟨σ1, H1, J1, g⟩ := g
    exact h2 pn s1 σ1 H1 D ht J1 g
theorem pst_setE {i : Nat} {x : Str} {e : Expr} {te : TE} {p2 pos : Pos} (hN : X.N.Nodup) (hi : X.N[i]? = some x) (hx : Loc X.env.scope x) (he : PET X e te) (hs : swapsWith e (some (.Name x p2)) pos.line X.env = pure false := by rfl)
    (hf : X.fn x = true ∨ X.env.scope.names.lookup x = some .local := by first | exact .inl rfl | exact .inr rfl | assumption) : PST X (.Assign [.Name x p2] e pos) (tAsg te (gName i)) := by
  intro pn s σ H D h0 J h
  refine wpAny_Assign_Name (thn (he pn s σ H _ h0 J h) fun v s1 g => ?_) hs
  obtain ⟨y, H1, J1, r1, q1⟩ := g
  exact store_ok J1 hN hi hx r1 (fun s2 J2 => ⟨_, H1, J2, q1⟩) hf
/-- a word between an if and what follows, a token out -/
theorem psst_cut {st : Stmt} {rest : List Stmt} {t u : TS} (h1 : PST X st t) (h2 : PSsT X rest u) : PSsT X (st :: rest) (C8.tCut t u) := by
  intro pn s σ H D h0 J h
  obtain ⟨M, hm, hu⟩ := h
  refine wpAny_execs_cons (wpAny_mono (PySem.wpAny_toks (h1 pn s σ H { D with nx := M } h0 J hm)) (fun fl s1 g => ?_) fun _ _ z => z.2)
  obtain ⟨hk, g⟩ := g
  cases fl with
  | ret v => exact g
  | brk => exact g
  | cont => exact g
  | next =>
    obtain ⟨σ1, H1, J1, g⟩ := g
    exact h2 pn s1 σ1 H1 D (Nat.le_trans h0 hk) J1 (hu σ1 H1 g)
end
end K01
namespace K01
open PySem PySem.Spec PyProof.Rows L2 TL
local macro_rules | `(tactic| walk_at "rd") => `(tactic| simp only [start1, wipe, isR, isBool, isInt, isStr, isLst, isTup, tAsg, gName, gSub, tVar, tC, tOp, tUn, tTest, tIfS, tRet, tRetN, tDrop, tB, tAnd, tOr, tNot, tAndV, tOrV, tNotV, tIf, tCB, tCons, tNil, tNext, tCall, tBM, tTup, tLst, rI0, rI, rEq, rNe, scal, forR_eq, forR2_eq, forS_eq, forL_eq, lcL_eq, lcR_eq, lcS_eq, rLenX, rLenS, CwR.tReplC, rAllK, rInSg, rNinSg, sgn_inj, rAddS, rInSt, tChain, tM1, tM0, rSplitN, rJoinN, exists_eq, rIntI, rIntB, rIntS, rStrI, rAbs, rOrd, rMin, rMax, rIxL, rIxX, rSetL, rAppend, rIxS, rSlS, rSlL, tSl, List.map_cons, List.map_nil, List.replicate_succ, List.replicate_zero, List.length_cons, List.length_nil, Nat.reduceSub, Nat.reduceAdd, Nat.zero_add, Nat.sub_self, List.getElem?_cons_zero, List.getElem?_cons_succ, List.set_cons_zero, List.set_cons_succ, List.append_nil, List.nil_append, List.cons_append, Option.some.injEq, exists_eq_left', exists_eq_left, exists_eq', exists_and_left, exists_and_right, V.int.injEq, V.str.injEq, V.bl.injEq, V.ref.injEq, List.cons.injEq, and_true, true_and, and_assoc, decide_eq_true_eq, Bool.not_eq_true', decide_eq_false_iff_not, ite_true, ite_false, if_true, if_false, Bool.not_true, Bool.not_false, Bool.false_eq_true, eq_self_iff_true, reduceIte, ne_eq, Int.reduceEq, not_false_eq_true])
local macro_rules | `(tactic| walk_at "rt") => `(tactic| try walk_at "rd")
local macro_rules | `(tactic| walk_at "st") => `(tactic| (walk_at "rt"; refine r_seq ?_; walk_at "rt"))
local macro_rules | `(tactic| walk_at "hp") => `(tactic| first | assumption | exact upd_same | (rw [upd_ne (by assumption)]; walk_at "hp"))
local macro_rules | `(tactic| walk_at "ex1") => `(tactic| ((with_reducible refine Exists.intro ?w (And.intro ?hx ?_)); (case hx => first | exact sq_of (by walk_at "hp") | exact .inl (sq_of (by walk_at "hp")) | exact rfl | (show _ = some (HO.lst _); walk_at "hp"))))
local macro_rules | `(tactic| walk_at "ex") => `(tactic| repeat (first | walk_at "ex1" | walk_at "rd"))
abbrev s_word : Stmt := topS 20
theorem sc_word : FnScope ["store", "high"] ["store", "high"] (defScope s_word) := ⟨rfl, rfl, rfl, by decide +kernel, rfl, by decide +kernel, by decide +kernel⟩
abbrev s_wordlines : Stmt := topS 21
theorem sc_wordlines : FnScope ["store", "plain", "lines", "k", "row", "j", "word"] ["store"] (defScope s_wordlines) := ⟨rfl, rfl, rfl, by decide +kernel, rfl, by decide +kernel, by decide +kernel⟩
theorem repl_len (x y : Str) : (Txt.replace x y (Str.ofString "")).length ≤ x.length := by
  have h := TK.replace_len x y (Str.ofString "")
  rw [show (Str.ofString "").length = 0 by decide +kernel, Nat.mul_zero] at h
  exact h
theorem emp_len : (Str.ofString "").length = 0 := by decide +kernel
section
variable {P : Program} {w : World} {K : PySem.W.Frag} {mg : Str → Option Value} {base : Heap}
theorem ok_word {f f_text : Addr} {fd fd_text : FuncData} (B : Bi mg) (D : Dn K mg "_law_word" s_word ["store", "high"] f fd) (D_text : Dn K mg "_law_text" s_text ["store", "high"] f_text fd_text)
    (G_text : FnOk P w K mg base CX0 4 f_text fd_text ["store", "high"] spText) : FnOk P w K mg base CX0 5 f fd ["store", "high"] spText := by
  refine okT D.F sc_word (by decide +kernel) (by decide) (fun vs H Q E h => ?_) (fun cdv A outer s H vs Q E hr h => ?_)
  · obtain ⟨a, c, hi, rfl, _⟩ := h
    rfl
  · obtain ⟨a, c, hi, rfl, S, h0, h1, q⟩ := h
    refine ⟨_, (CwR.psst_one (CwR.pst_ret (CwR.pet_replT (CwR.pet_replC (pe_call G_text (hr.mono (by omega)) (by rfl) D_text.g D_text.F.kp D_text.b .nil pass0 (pa_cons (pv 0) (pa_cons (pv 1) pa_nil))))))), ?_⟩
    walk_at "rd"
    refine ⟨a, c, hi, rfl, S, h0, h1, fun v H1 S1 b1 ⟨z, e, hz⟩ => ?_⟩
    subst e
    have l1 := repl_len z (Str.ofString " ")
    have l2 := repl_len (Txt.replace z (Str.ofString " ") (Str.ofString "")) (Str.ofString "\n")
    walk_at "rt"
    exact ⟨by rw [emp_len]; omega, by rw [emp_len]; omega, q _ _ S1 b1 ⟨_, rfl, by omega⟩⟩
def spWordLines : Sp := fun vs H Q _ => ∃ (a c : Addr), vs = [.ref a] ∧ StoreAt H a c ∧ ∀ v H', StoreAt H' a c → But a H H' → ∀ ls : Lines, At H' (fun p => H p = none) (linesD ls) v → totW ls ≤ 1000 → Q v H'
/-- a row of short words -/
def Short (ws : List Str) : Prop := ws.length ≤ 8 ∧ ∀ x ∈ ws, x.length ≤ 9
theorem short_sum : ∀ (ws : List Str), (∀ x ∈ ws, x.length ≤ 9) → (ws.map (·.length)).sum ≤ 9 * ws.length
  | [], _ => Nat.le_refl _
  | x :: r, h => by
    have := short_sum r fun y hy => h y (List.mem_cons_of_mem _ hy)
    have := h x List.mem_cons_self
    rw [List.map_cons, List.sum_cons, List.length_cons]
    omega
theorem short_tot : ∀ (ls : Lines), (∀ ws ∈ ls, Short ws) → totW ls ≤ 81 * ls.length
  | [], _ => Nat.le_refl _
  | ws :: r, h => by
    have h1 := short_tot r fun y hy => h y (List.mem_cons_of_mem _ hy)
    have h2 := h ws List.mem_cons_self
    have h3 := short_sum ws h2.2
    have h4 := h2.1
    show ((ws.map (·.length)).sum + ws.length + 1) + totW r ≤ 81 * (r.length + 1)
    omega
theorem ok_wordlines {f f_text f_chance f_size f_take : Addr} {fd fd_text fd_chance fd_size fd_take : FuncData} (B : Bi mg) (D : Dn K mg "_law_word_lines" s_wordlines ["store"] f fd) (D_text : Dn K mg "_law_text" s_text ["store", "high"] f_text fd_text)
    (D_chance : Dn K mg "_law_chance" s_chance ["store", "many"] f_chance fd_chance) (D_size : Dn K mg "_law_size" s_size ["store", "low", "high"] f_size fd_size) (D_take : Dn K mg "_law_take" s_take ["store", "many"] f_take fd_take)
    (G_take : FnOk P w K mg base CX0 2 f_take fd_take ["store", "many"] spTake) (G_chance : FnOk P w K mg base CX0 3 f_chance fd_chance ["store", "many"] spChance) (G_size : FnOk P w K mg base CX0 3 f_size fd_size ["store", "low", "high"] spRange)
    (G_text : FnOk P w K mg base CX0 4 f_text fd_text ["store", "high"] spText) : FnOk P w K mg base CX0 5 f fd ["store"] spWordLines := by
  refine D.F.ok sc_wordlines (fun vs H Q E h => ?_) (fun cdv A outer s H vs Q E hr h => ?_)
  · obtain ⟨a, c, rfl, _⟩ := h
    rfl
  · obtain ⟨a, c, rfl, S, q⟩ := h
    refine ⟨_, (pss_cons (ps_set (i := 1) sc_wordlines.nd rfl (.inl rfl) (pe_call G_chance (hr.mono (by omega)) (by rfl) D_chance.g D_chance.F.kp D_chance.b .nil pass0 (pa_cons (pv 0) (pa_cons pe_int pa_nil))))
      (pss_cons (ps_set (i := 2) sc_wordlines.nd rfl (.inl rfl) (pe_lst pa_nil))
      (pss_cons (ps_for PassesOwn.never rfl (pi_range1 (by rfl) B.range (pa_cons (pe_call G_size (hr.mono (by omega)) (by rfl) D_size.g D_size.F.kp D_size.b .nil pass0 (pa_cons (pv 0) (pa_cons pe_int (pa_cons pe_int pa_nil)))) pa_nil)) (pg_name (i := 3) sc_wordlines.nd rfl (.inl rfl)) (pss_cons (ps_set (i := 4) sc_wordlines.nd rfl (.inl rfl) (pe_lst pa_nil))
      (pss_cons (ps_for PassesOwn.never rfl (pi_range1 (by rfl) B.range (pa_cons (pe_call G_size (hr.mono (by omega)) (by rfl) D_size.g D_size.F.kp D_size.b .nil pass0 (pa_cons (pv 0) (pa_cons (pe_callTy call_intB (by rfl) B.int_ (by decide +kernel) (pa_cons (pv 1) pa_nil)) (pa_cons pe_int pa_nil)))) pa_nil)) (pg_name (i := 5) sc_wordlines.nd rfl (.inl rfl)) (pss_tok (ps1_call (i := 6) sc_wordlines.nd rfl (.inl rfl) G_text (hr.mono (by omega)) (by rfl) D_text.g D_text.F.kp D_text.b .nil pass0 (pa1_cons (pv 0) (pa1_int))) (psst_cut (CwR.pst_if (PW.pt (pw_or (pt_val (pv 1)) (pw_or1 (pt_cmpR op_gt (pe_call G_take (hr.mono (by omega)) (by rfl) D_take.g D_take.F.kp D_take.b .nil pass0 (pa_cons (pv 0) (pa_cons pe_int pa_nil))) pe_int (nomark _))))) (CwR.psst_one (pst_setE (i := 6) sc_wordlines.nd rfl (.inl rfl) (CwR.pet_replT (CwR.pet_replC (pv 6))))) CwR.psst_nil) (CwR.psst_one (PST.of (ps_expr (pe_bm PySem.F.plainAttrs_list PySem.F.slot_list_append PySem.F.type_list_append mt_append (pv 4) (pa_cons (pv 6) pa_nil))))))))
      (pss_one (ps_expr (pe_bm PySem.F.plainAttrs_list PySem.F.slot_list_append PySem.F.type_list_append mt_append (pv 2) (pa_cons (pv 4) pa_nil)))))))
      (pss_one (ps_ret (pv 2)))))), ?_⟩
    walk_at "st"
    refine ⟨a, c, _, rfl, S, by decide, fun v H1 S1 b1 ⟨pl, e⟩ => ?_⟩
    subst e
    walk_at "st"
    refine ⟨by decide, fun p np => ?_⟩
    have pa := S1.ne1 np
    have pc := S1.ne2 np
    walk_at "st"
    refine ⟨a, c, 0, 8, rfl, S1.new np, by decide, by decide, fun v H2 S2 b2 ⟨many, e, m0, m1⟩ => ?_⟩
    subst e
    walk_at "rt"
    refine ⟨by omega, by omega, ?_⟩
    have hp2 : H2 p = some (.lst []) := b2 p _ pa upd_same
    have b12 : But a H1 H2 := fun b o hb h => b2 b o hb (by rw [upd_ne (ne_of_none h np)]; exact h)
    refine r_range (fun i σ H' => (∃ x3 x4 x5 x6 : Option V, σ = [some (.ref a), some (.bl pl), some (.ref p), x3, x4, x5, x6]) ∧ StoreAt H' a c ∧ But a H1 H' ∧ ∃ (ls : Lines) (ys : List V), ls.length = i ∧ (∀ ws ∈ ls, Short ws) ∧ H' p = some (.lst ys) ∧ AtL H' (fun q => H1 q = none ∧ q ≠ p) (ls.map strsD) ys)
      ⟨⟨_, _, _, _, rfl⟩, S2, b12, [], [], rfl, by simp, hp2, rfl⟩ ?_ ?_
    · rintro i σ H3 hi ⟨⟨x3, x4, x5, x6, rfl⟩, S3, b3, ls, ys, hl, hsh, hp3, L3⟩ N k
      walk_at "st"
      refine ⟨by decide, fun p2 np2 => ?_⟩
      have pa2 := S3.ne1 np2
      have pc2 := S3.ne2 np2
      have pp : p ≠ p2 := ne_of_none hp3 np2
      walk_at "st"
      refine ⟨a, c, _, _, rfl, S3.new np2, by cases pl <;> decide, by cases pl <;> decide, fun v H4 S4 b4 ⟨many2, e, n0, n1⟩ => ?_⟩
      subst e
      have n0' : 0 ≤ many2 := by cases pl <;> simp at n0 <;> omega
      walk_at "rt"
      refine ⟨by omega, by omega, ?_⟩
      have hp24 : H4 p2 = some (.lst []) := b4 p2 _ pa2 upd_same
      have b34 : But a H3 H4 := fun b o hb h => b4 b o hb (by rw [upd_ne (ne_of_none h np2)]; exact h)
      refine r_range (fun j σ H' => (∃ x5 x6 : Option V, σ = [some (.ref a), some (.bl pl), some (.ref p), some (.int (i : Int)), some (.ref p2), x5, x6]) ∧ StoreAt H' a c ∧ But a H3 H' ∧ ∃ ws : List Str, ws.length = j ∧ (∀ x ∈ ws, x.length ≤ 9) ∧ H' p2 = some (.lst (ws.map V.str)))
        ⟨⟨x5, x6, by rw [Int.zero_add]⟩, S4, b34, [], rfl, by simp, hp24⟩ ?_ ?_
      · rintro j σ H5 hj ⟨⟨x5, x6, rfl⟩, S5, b5, ws, hwl, hw9, hp25⟩ N2 k2
        have fin : ∀ (H6 : Hp) (z : Str) (x5 : Option V), StoreAt H6 a c → But a H3 H6 → z.length ≤ 9 → H6 p2 = some (.lst (ws.map V.str)) → N2 [some (.ref a), some (.bl pl), some (.ref p), some (.int (i : Int)), some (.ref p2), x5, some (.str z)] (L2.upd H6 p2 (.lst (ws.map V.str ++ [.str z]))) := fun H6 z x5 S6 b6 hz hp26 =>
          k2 _ _ ⟨⟨_, _, rfl⟩, S6.put pa2 pc2, b6.putNew np2, ws ++ [z], by rw [List.length_append, hwl]; rfl, fun x hx => by
            rcases List.mem_append.mp hx with hx | hx
            · exact hw9 x hx
            · rw [List.mem_singleton.mp hx]; exact hz, by rw [upd_same, List.map_append]; rfl⟩
        walk_at "st"
        refine ⟨a, c, _, rfl, S5, by decide, by decide, fun v H6 S6 b6 ⟨z, e, hz⟩ => ?_⟩
        subst e
        walk_at "rt"
        have l1 := repl_len z (Str.ofString " ")
        have l2 := repl_len (Txt.replace z (Str.ofString " ") (Str.ofString "")) (Str.ofString "\n")
        refine r_cut (fun σ' H' => (∃ z : Str, z.length ≤ 9 ∧ σ' = [some (.ref a), some (.bl pl), some (.ref p), some (.int (i : Int)), some (.ref p2), some (.int (j : Int)), some (.str z)]) ∧ StoreAt H' a c ∧ But a H5 H') (fun N3 k3 => ?_) ?_
        · walk_at "rt"
          have yes : ∀ H', StoreAt H' a c → But a H5 H' → (z.length + (z.length + 1) * (Str.ofString "").length ≤ 16777216 ∧ (Txt.replace z (Str.ofString " ") (Str.ofString "")).length + ((Txt.replace z (Str.ofString " ") (Str.ofString "")).length + 1) * (Str.ofString "").length ≤ 16777216 ∧
              N3 [some (.ref a), some (.bl pl), some (.ref p), some (.int (i : Int)), some (.ref p2), some (.int (0 + (j : Int))), some (.str (Txt.replace (Txt.replace z (Str.ofString " ") (Str.ofString "")) (Str.ofString "\n") (Str.ofString "")))] H') := fun H' S' b' =>
            ⟨by rw [emp_len]; omega, by rw [emp_len]; omega, k3 _ _ ⟨⟨Txt.replace (Txt.replace z (Str.ofString " ") (Str.ofString "")) (Str.ofString "\n") (Str.ofString ""), by omega, by rw [Int.zero_add]⟩, S', b'⟩⟩
          refine ite2 (fun _ => yes H6 S6 b6) (fun _ => ?_)
          refine ⟨a, c, _, rfl, S6, by decide, fun v H7 S7 b7 ⟨r, e, _, _⟩ => ?_⟩
          subst e
          walk_at "rt"
          exact ite2 (fun _ => yes H7 S7 (b6.trans b7)) (fun _ => k3 _ _ ⟨⟨z, by omega, by rw [Int.zero_add]⟩, S7, b6.trans b7⟩)
        · rintro σ' H7 ⟨⟨z, hz, rfl⟩, S7, b7⟩
          have hp27 := b7 p2 _ pa2 hp25
          walk_at "rt"
          exact ⟨.inl ⟨rfl, _, sq_of hp27⟩, _, hp27, size_ok (by rw [List.length_map]; omega), fin H7 z _ S7 (b5.trans b7) hz hp27⟩
      · rintro σ H5 ⟨⟨x5, x6, rfl⟩, S5, b5, ws, hwl, hw9, hp25⟩
        have hp5 := b5 p _ pa hp3
        walk_at "rt"
        have elen := L3.length
        rw [List.length_map] at elen
        refine ⟨.inl ⟨rfl, _, sq_of hp5⟩, _, hp5, size_ok (by omega), k _ _ ⟨⟨_, _, _, _, rfl⟩, S5.put pa pc, (b3.trans b5).putNew np, ls ++ [ws], ys ++ [.ref p2], by rw [List.length_append, hl]; rfl, ?_, upd_same, ?_⟩⟩
        · intro x hx
          rcases List.mem_append.mp hx with hx | hx
          · exact hsh x hx
          · rw [List.mem_singleton.mp hx]
            exact ⟨by omega, hw9⟩
        · rw [List.map_append]
          refine AtL.snoc _ _ _ _ ?_ ?_
          · exact AtL.mono (fun _ h => h) (fun q o hq h => by
              rw [upd_ne hq.2]
              exact b5 q o (fun e => by rw [e] at hq; exact S1.ne1 hq.1 rfl) h) _ _ L3
          · refine ⟨p2, _, rfl, ⟨?_, pp.symm⟩, by rw [upd_ne pp.symm]; exact hp25, by rw [List.length_map]; omega, atL_of ws⟩
            cases e : H1 p2 with
            | none => rfl
            | some o =>
              have := b3 p2 o pa2 e
              rw [np2] at this
              cases this
    · rintro σ H3 ⟨⟨x3, x4, x5, x6, rfl⟩, S3, b3, ls, ys, hl, hsh, hp3, L3⟩
      walk_at "rt"
      have htot := short_tot ls hsh
      have b13 := b1.trans b3
      have elen := L3.length
      rw [List.length_map] at elen
      have free : ∀ q, H1 q = none → H q = none := fun q hq => by
        cases e : H q with
        | none => rfl
        | some o =>
          have := b1 q o (S1.ne1 hq) e
          rw [hq] at this
          cases this
      exact q _ _ S3 b13 ls ⟨p, ys, rfl, free p np, hp3, by omega, AtL.mono (fun q h => free q h.1) (fun _ _ _ h => h) _ _ L3⟩ (by omega)
end
end K01
namespace K01
open PySem PySem.Spec PyProof.Rows L2
/-! ### texts times numbers, lists times numbers -/
def rMulS (x y : V) (H : Hp) (Q : VK) : Prop := ∃ z, x = .str z ∧ ∃ n, y = .int n ∧ ∃ L N : Nat, z.length ≤ L ∧ n ≤ (N : Int) ∧ 0 ≤ n ∧ N ≤ 16777216 ∧ L * N ≤ 16777216 ∧ Q (.str (Txt.mul z n)) H
theorem op_mulS {X : Cx} : OpR X (binaryOp .Mult) rMulS := by
  intro pn s σ H x y v u Q J rx ry h
  obtain ⟨z, rfl, n, rfl, L, N, h1, h2, h3, h4, h5, q⟩ := h
  obtain ⟨t, rfl⟩ := rx
  obtain ⟨t', rfl⟩ := ry
  exact SB.mul (mulOk_of L N h1 h2 (by omega) h4 h5) fun tt k => ⟨.str (Txt.mul z n), H, J.tok k, ⟨tt, rfl⟩, q⟩
def rRepL (x y : V) (H : Hp) (Q : VK) : Prop := ∃ l, x = .ref l ∧ ∃ k, y = .int k ∧ ∃ xs, H l = some (.lst xs) ∧ -(2 ^ 63) ≤ k ∧ k < 2 ^ 63 ∧ xs.length * k.toNat ≤ sizeLine ∧ ∀ p, H p = none → Q (.ref p) (L2.upd H p (.lst (List.replicate k.toNat xs).flatten))
theorem op_repL {X : Cx} : OpR X (binaryOp .Mult) rRepL := opR_mono op_rep fun _ _ _ _ ⟨l, e, k, e2, xs, h1, h2, h3, h4, q⟩ => ⟨l, k, xs, e, e2, h1, h2, h3, h4, q⟩
def rCatL (x y : V) (H : Hp) (Q : VK) : Prop := ∃ l, x = .ref l ∧ ∃ b, y = .ref b ∧ ∃ xs, H l = some (.lst xs) ∧ ∃ zs, H b = some (.lst zs) ∧ xs.length + zs.length ≤ sizeLine ∧ ∀ p, H p = none → Q (.ref p) (L2.upd H p (.lst (xs ++ zs)))
theorem op_catL {X : Cx} : OpR X (binaryOp .Add) rCatL := opR_mono op_cat fun _ _ _ _ ⟨l, e, b, e2, xs, h1, zs, h2, h3, q⟩ => ⟨l, b, xs, zs, e, e2, h1, h2, h3, q⟩
theorem mul_le {z : Str} {n : Int} {L N : Nat} (h1 : z.length ≤ L) (h2 : n ≤ (N : Int)) : (Txt.mul z n).length ≤ L * N := len_mul_leN h1 h2
end K01
namespace K01
open PySem PySem.Spec PyProof.Rows L2 TL
local macro_rules | `(tactic| walk_at "rd") => `(tactic| simp only [start1, wipe, isR, isBool, isInt, isStr, isLst, isTup, tAsg, gName, gSub, tVar, tC, tOp, tUn, tTest, tIfS, tRet, tRetN, tDrop, tB, tAnd, tOr, tNot, tAndV, tOrV, tNotV, tIf, tCB, tCons, tNil, tNext, tCall, tBM, tTup, tLst, rI0, rI, rEq, rNe, scal, forR_eq, forR2_eq, forS_eq, forL_eq, lcL_eq, lcR_eq, lcS_eq, rLenX, rLenS, rMulS, rRepL, rCatL, tPart, tNoPart, CwR.tReplC, rAllK, rInSg, rNinSg, sgn_inj, rAddS, rInSt, tChain, tM1, tM0, rSplitN, rJoinN, exists_eq, rIntI, rIntB, rIntS, rStrI, rAbs, rOrd, rMin, rMax, rIxL, rIxX, rSetL, rAppend, rIxS, rSlS, rSlL, tSl, List.map_cons, List.map_nil, List.replicate_succ, List.replicate_zero, List.length_cons, List.length_nil, Nat.reduceSub, Nat.reduceAdd, Nat.zero_add, Nat.sub_self, List.getElem?_cons_zero, List.getElem?_cons_succ, List.set_cons_zero, List.set_cons_succ, List.append_nil, List.nil_append, List.cons_append, Option.some.injEq, exists_eq_left', exists_eq_left, exists_eq', exists_and_left, exists_and_right, V.int.injEq, V.str.injEq, V.bl.injEq, V.ref.injEq, List.cons.injEq, and_true, true_and, and_assoc, decide_eq_true_eq, Bool.not_eq_true', decide_eq_false_iff_not, ite_true, ite_false, if_true, if_false, Bool.not_true, Bool.not_false, Bool.false_eq_true, eq_self_iff_true, reduceIte, ne_eq, Int.reduceEq, not_false_eq_true])
local macro_rules | `(tactic| walk_at "rt") => `(tactic| try walk_at "rd")
local macro_rules | `(tactic| walk_at "st") => `(tactic| (walk_at "rt"; refine r_seq ?_; walk_at "rt"))
local macro_rules | `(tactic| walk_at "hp") => `(tactic| first | assumption | exact upd_same | (rw [upd_ne (by assumption)]; walk_at "hp"))
local macro_rules | `(tactic| walk_at "ex1") => `(tactic| ((with_reducible refine Exists.intro ?w (And.intro ?hx ?_)); (case hx => first | exact sq_of (by walk_at "hp") | exact .inl (sq_of (by walk_at "hp")) | exact rfl | (show _ = some (HO.lst _); walk_at "hp"))))
local macro_rules | `(tactic| walk_at "ex") => `(tactic| repeat (first | walk_at "ex1" | walk_at "rd"))
abbrev s_numberword : Stmt := topS 22
theorem sc_numberword : FnScope ["store", "kind", "word", "at"] ["store"] (defScope s_numberword) := ⟨rfl, rfl, rfl, by decide +kernel, rfl, by decide +kernel, by decide +kernel⟩
abbrev s_numberwords : Stmt := topS 28
theorem sc_numberwords : FnScope ["store", "words", "k"] ["store"] (defScope s_numberwords) := ⟨rfl, rfl, rfl, by decide +kernel, rfl, by decide +kernel, by decide +kernel⟩
def spPickL : Sp := fun vs H Q _ => ∃ (a c p : Addr) (xs : List V), vs = [.ref a, .ref p] ∧ StoreAt H a c ∧ H p = some (.lst xs) ∧ p ≠ a ∧ xs ≠ [] ∧ xs.length ≤ 1000 ∧ Drawn H a c (fun v => v ∈ xs) Q
def spNumWord : Sp := fun vs H Q _ => ∃ (a c : Addr), vs = [.ref a] ∧ StoreAt H a c ∧ Drawn H a c (TextLe 100) Q
theorem num_len {n : Int} (h0 : 0 ≤ n) (h1 : n < 10 ^ 20) : (Str.ofString (toString n)).length ≤ 20 := by
  obtain ⟨m, rfl⟩ : ∃ m : Nat, n = (m : Int) := ⟨n.toNat, by omega⟩
  rw [len_tl, tl_num]
  exact numL_len (by decide) (by omega)
theorem log_small {n : Int} (h0 : 0 ≤ n) (h1 : n < 10 ^ 20) : n.natAbs.log2 < 1920 := by
  have h : n.natAbs < 2 ^ 1920 := Nat.lt_of_lt_of_le (show n.natAbs < 2 ^ 67 by omega) (Nat.pow_le_pow_right (by decide) (by decide))
  by_cases e : n.natAbs = 0
  · rw [e]; decide
  · exact (Nat.log2_lt e).mpr h
section
variable {P : Program} {w : World} {K : PySem.W.Frag} {mg : Str → Option Value} {base : Heap}
theorem ok_pickL {f f_take : Addr} {fd fd_take : FuncData} (B : Bi mg) (D : Dn K mg "_law_pick" s_pick ["store", "row"] f fd) (D_take : Dn K mg "_law_take" s_take ["store", "many"] f_take fd_take)
    (G_take : FnOk P w K mg base CX0 2 f_take fd_take ["store", "many"] spTake) : FnOk P w K mg base CX0 3 f fd ["store", "row"] spPickL := by
  refine D.F.ok sc_pick (fun vs H Q E h => ?_) (fun cdv A outer s H vs Q E hr h => ?_)
  · obtain ⟨a, c, p, xs, rfl, _⟩ := h
    rfl
  · obtain ⟨a, c, p, xs, rfl, S, hp, hpa, hne, hl, q⟩ := h
    refine ⟨_, (pss_cons (ps_if (pt_cmpR op_eq (pe_callB (call_lenXK (K := K)) (by rfl) B.len PySem.boot_len (pa_cons (pv 1) pa_nil)) pe_int (nomark _)) (pss_one (ps_ret pe_non)) pss_nil)
      (pss_one (ps_ret (pe_ix (ix_listK (K := K)) (pv 1) (pe_call G_take (hr.mono (by omega)) (by rfl) D_take.g D_take.F.kp D_take.b .nil pass0 (pa_cons (pv 0) (pa_cons (pe_callB (call_lenXK (K := K)) (by rfl) B.len PySem.boot_len (pa_cons (pv 1) pa_nil)) pa_nil))) (fun _ _ => rfl)))))
, ?_⟩
    have hpos : 0 < xs.length := List.length_pos_iff.mpr hne
    walk_at "st"
    refine ⟨_, .inl (sq_of hp), ite2 (fun e => absurd e (by omega)) (fun _ => ?_)⟩
    walk_at "rt"
    refine ⟨_, .inl (sq_of hp), ?_⟩
    refine ⟨a, c, _, rfl, S, by omega, fun v H' S' b' ⟨r, e, r0, r1⟩ => ?_⟩
    subst e
    obtain ⟨k, hk, hk2⟩ := atI_get (xs := xs) (i := r) r0 (by omega)
    walk_at "rt"
    exact ⟨_, sq_of (b' p _ hpa hp), _, hk, q _ _ S' b' (List.mem_of_getElem? hk2)⟩
theorem ok_numberword {f f_take f_number f_pick : Addr} {fd fd_take fd_number fd_pick : FuncData} (B : Bi mg) (D : Dn K mg "_law_number_word" s_numberword ["store"] f fd)
    (D_take : Dn K mg "_law_take" s_take ["store", "many"] f_take fd_take) (D_number : Dn K mg "_law_number" s_number ["store", "low", "high"] f_number fd_number) (D_pick : Dn K mg "_law_pick" s_pick ["store", "row"] f_pick fd_pick)
    (G_take : FnOk P w K mg base CX0 2 f_take fd_take ["store", "many"] spTake) (G_number : FnOk P w K mg base CX0 4 f_number fd_number ["store", "low", "high"] spRange)
    (G_pick : FnOk P w K mg base CX0 3 f_pick fd_pick ["store", "row"] spPick) (G_pickL : FnOk P w K mg base CX0 3 f_pick fd_pick ["store", "row"] spPickL) : FnOk P w K mg base CX0 5 f fd ["store"] spNumWord := by
  refine D.F.ok sc_numberword (fun vs H Q E h => ?_) (fun cdv A outer s H vs Q E hr h => ?_)
  · obtain ⟨a, c, rfl, _⟩ := h
    rfl
  · obtain ⟨a, c, rfl, S, q⟩ := h
    refine ⟨_, (pss_cons (ps_set (i := 1) sc_numberword.nd rfl (.inl rfl) (pe_call G_take (hr.mono (by omega)) (by rfl) D_take.g D_take.F.kp D_take.b .nil pass0 (pa_cons (pv 0) (pa_cons pe_int pa_nil))))
      (pss_cons (ps_set (i := 2) sc_numberword.nd rfl (.inl rfl) (pe_callTy call_strI (by rfl) B.str_ (by decide +kernel) (pa_cons (pe_call G_number (hr.mono (by omega)) (by rfl) D_number.g D_number.F.kp D_number.b .nil pass0 (pa_cons (pv 0) (pa_cons pe_int (pa_cons (pe_op op_sub (pe_op op_pow pe_int pe_int) pe_int) pa_nil)))) pa_nil)))
      (C8.pss_cut (ps_if (pt_cmpR op_lt (pv 1) pe_int (nomark _)) (pss_one (ps_set (i := 2) sc_numberword.nd rfl (.inl rfl) (pe_callTy call_strI (by rfl) B.str_ (by decide +kernel) (pa_cons (pe_call G_take (hr.mono (by omega)) (by rfl) D_take.g D_take.F.kp D_take.b .nil pass0 (pa_cons (pv 0) (pa_cons (pe_ix (ix_listK (K := K)) (pe_lst (pa_cons pe_int (pa_cons pe_int (pa_cons pe_int pa_nil)))) (pv 1) (fun _ _ => rfl)) pa_nil))) pa_nil)))) pss_nil)
      (pss_cons (ps_set (i := 3) sc_numberword.nd rfl (.inl rfl) (pe_call G_take (hr.mono (by omega)) (by rfl) D_take.g D_take.F.kp D_take.b .nil pass0 (pa_cons (pv 0) (pa_cons (pe_op op_add (pe_callB call_lenS (by rfl) B.len PySem.boot_len (pa_cons (pv 2) pa_nil)) pe_int) pa_nil))))
      (pss_cons (ps_if (pt_cmpR op_eq (pv 1) pe_int (nomark _)) (pss_one (ps_ret (pe_op op_addS (pe_op op_mulS pe_str (pe_op op_add pe_int (pe_call G_take (hr.mono (by omega)) (by rfl) D_take.g D_take.F.kp D_take.b .nil pass0 (pa_cons (pv 0) (pa_cons pe_int pa_nil))))) (pv 2)))) pss_nil)
      (pss_cons (ps_if (pt_cmpR op_eq (pv 1) pe_int (nomark _)) (pss_one (ps_ret (pe_op op_addS (pe_op op_addS (pe_slice sl_str (pv 2) po_none (po_some (pv 3))) (pe_call G_pick (hr.mono (by omega)) (by rfl) D_pick.g D_pick.F.kp D_pick.b .nil pass0 (pa_cons (pv 0) (pa_cons pe_str pa_nil)))) (pe_slice sl_str (pv 2) (po_some (pv 3)) po_none)))) pss_nil)
      (pss_cons (ps_if (pt_cmpR op_eq (pv 1) pe_int (nomark _)) (pss_one (ps_ret (pe_call G_pickL (hr.mono (by omega)) (by rfl) D_pick.g D_pick.F.kp D_pick.b .nil pass0 (pa_cons (pv 0) (pa_cons (pe_lst (pa_cons pe_str (pa_cons pe_str (pa_cons pe_str (pa_cons pe_str (pa_cons pe_str (pa_cons (pe_op op_addS pe_str (pe_op op_mulS pe_str pe_int)) (pa_cons (pe_op op_addS pe_str (pe_op op_mulS pe_str pe_int)) (pa_cons (pe_op op_mulS pe_str pe_int) (pa_cons (pe_op op_mulS pe_str pe_int) pa_nil)))))))))) pa_nil))))) pss_nil)
      (pss_one (ps_ret (pv 2)))))))))), ?_⟩
    walk_at "st"
    refine ⟨a, c, _, rfl, S, by decide, fun v H1 S1 b1 ⟨kind, e, k0, k1⟩ => ?_⟩
    subst e
    walk_at "st"
    refine ⟨⟨by decide, by decide, by decide⟩, a, c, 0, _, rfl, S1, by decide, by decide, fun v H2 S2 b2 ⟨n, e, n0, n1⟩ => ?_⟩
    subst e
    have n2 : n < 10 ^ 20 := by
      have e : (10 : Int) ^ (Int.toNat 20) - 1 = 10 ^ 20 - 1 := rfl
      omega
    walk_at "rt"
    refine ⟨log_small n0 n2, ?_⟩
    refine r_cut (fun σ' H' => (∃ z : Str, z.length ≤ 20 ∧ σ' = [some (.ref a), some (.int kind), some (.str z), none]) ∧ StoreAt H' a c ∧ But a H H') (fun N k => ?_) ?_
    · walk_at "rt"
      refine ite2 (fun hlt => ?_) (fun _ => k _ _ ⟨⟨_, num_len n0 n2, rfl⟩, S2, b1.trans b2⟩)
      refine ⟨by decide, fun p np => ?_⟩
      obtain ⟨m, hm, hm2⟩ : ∃ m : Int, atI [V.int 10, V.int 100, V.int 70] kind = some (.int m) ∧ m ≤ 100 := by
        have : kind = 0 ∨ kind = 1 ∨ kind = 2 := by omega
        rcases this with h | h | h <;> subst h
        · exact ⟨10, rfl, by decide⟩
        · exact ⟨100, rfl, by decide⟩
        · exact ⟨70, rfl, by decide⟩
      refine ⟨_, sq_of upd_same, _, hm, ?_⟩
      refine ⟨a, c, m, rfl, S2.new np, by omega, fun v H3 S3 b3 ⟨r, e, r0, r1⟩ => ?_⟩
      subst e
      walk_at "rt"
      exact ⟨log_small r0 (by omega), k _ _ ⟨⟨_, num_len r0 (by omega), rfl⟩, S3, (b1.trans b2).trans (fun b o hb h => b3 b o hb (by rw [upd_ne (ne_of_none h np)]; exact h))⟩⟩
    · rintro σ' H3 ⟨⟨z, hz, rfl⟩, S3, b3⟩
      walk_at "st"
      refine ⟨line_of (by omega), a, c, _, rfl, S3, by omega, fun v H4 S4 b4 ⟨at_, e, at0, at1⟩ => ?_⟩
      subst e
      have b4' := b3.trans b4
      walk_at "st"
      refine ite2 (fun _ => ?_) (fun _ => ?_)
      · refine ⟨a, c, _, rfl, S4, by decide, fun v H5 S5 b5 ⟨r, e, r0, r1⟩ => ?_⟩
        subst e
        walk_at "rt"
        have hm := mul_le (z := Str.ofString "0") (n := 1 + r) (L := 1) (N := 2) (by decide +kernel) (by omega)
        exact ⟨1, by decide +kernel, 2, by omega, by omega, by decide, by decide, line_of (by omega), q _ _ S5 (b4'.trans b5) ⟨_, rfl, by rw [str_len]; omega⟩⟩
      walk_at "st"
      refine ite2 (fun _ => ?_) (fun _ => ?_)
      · have c1 := cutS_length z none (some at_)
        have c2 := cutS_length z (some at_) none
        refine ⟨line_of (by omega), ?_⟩
        refine ⟨a, c, _, rfl, S4, by decide +kernel, by decide +kernel, fun v H5 S5 b5 ⟨kk, _, e⟩ => ?_⟩
        subst e
        have one : (⟨#[kk]⟩ : Str).length = 1 := rfl
        walk_at "rt"
        exact ⟨line_of (by omega), line_of (by omega), line_of (by rw [str_len]; omega), q _ _ S5 (b4'.trans b5) ⟨_, rfl, by rw [str_len, str_len]; omega⟩⟩
      walk_at "st"
      refine ite2 (fun _ => ?_) (fun _ => ?_)
      · refine ⟨1, by decide +kernel, 19, by decide, by decide, by decide, by decide, line_of (by decide +kernel), 1, by decide +kernel, 20, by decide, by decide, by decide, by decide, line_of (by decide +kernel), 1, by decide +kernel, 21, by decide, by decide, by decide, by decide, 1, by decide +kernel, 21, by decide, by decide, by decide, by decide, by decide, fun p np => ?_⟩
        refine ⟨a, c, p, _, rfl, S4.new np, upd_same, S4.ne1 np, by simp, by simp, fun v H5 S5 b5 hv => q _ _ S5 (b4'.trans fun b o hb h => b5 b o hb (by rw [upd_ne (ne_of_none h np)]; exact h)) ?_⟩
        simp only [List.mem_cons, List.not_mem_nil, or_false] at hv
        rcases hv with h | h | h | h | h | h | h | h | h <;> (subst h; exact ⟨_, rfl, by decide +kernel⟩)
      · exact q _ _ S4 b4' ⟨_, rfl, by omega⟩
end
end K01
namespace K01
open PySem PySem.Spec PyProof.Rows L2 TL
local macro_rules | `(tactic| walk_at "rd") => `(tactic| simp only [start1, wipe, isR, isBool, isInt, isStr, isLst, isTup, tAsg, gName, gSub, tVar, tC, tOp, tUn, tTest, tIfS, tRet, tRetN, tDrop, tB, tAnd, tOr, tNot, tAndV, tOrV, tNotV, tIf, tCB, tCons, tNil, tNext, tCall, tBM, tTup, tLst, rI0, rI, rEq, rNe, scal, forR_eq, forR2_eq, forS_eq, forL_eq, lcL_eq, lcR_eq, lcS_eq, rLenX, rLenS, rMulS, rRepL, rCatL, tPart, tNoPart, CwR.tReplC, rAllK, rInSg, rNinSg, sgn_inj, rAddS, rInSt, tChain, tM1, tM0, rSplitN, rJoinN, exists_eq, rIntI, rIntB, rIntS, rStrI, rAbs, rOrd, rMin, rMax, rIxL, rIxX, rSetL, rAppend, rIxS, rSlS, rSlL, tSl, List.map_cons, List.map_nil, List.replicate_succ, List.replicate_zero, List.length_cons, List.length_nil, Nat.reduceSub, Nat.reduceAdd, Nat.zero_add, Nat.sub_self, List.getElem?_cons_zero, List.getElem?_cons_succ, List.set_cons_zero, List.set_cons_succ, List.append_nil, List.nil_append, List.cons_append, Option.some.injEq, exists_eq_left', exists_eq_left, exists_eq', exists_and_left, exists_and_right, V.int.injEq, V.str.injEq, V.bl.injEq, V.ref.injEq, List.cons.injEq, and_true, true_and, and_assoc, decide_eq_true_eq, Bool.not_eq_true', decide_eq_false_iff_not, ite_true, ite_false, if_true, if_false, Bool.not_true, Bool.not_false, Bool.false_eq_true, eq_self_iff_true, reduceIte, ne_eq, Int.reduceEq, not_false_eq_true])
local macro_rules | `(tactic| walk_at "rt") => `(tactic| try walk_at "rd")
local macro_rules | `(tactic| walk_at "st") => `(tactic| (walk_at "rt"; refine r_seq ?_; walk_at "rt"))
local macro_rules | `(tactic| walk_at "hp") => `(tactic| first | assumption | exact upd_same | (rw [upd_ne (by assumption)]; walk_at "hp"))
local macro_rules | `(tactic| walk_at "ex1") => `(tactic| ((with_reducible refine Exists.intro ?w (And.intro ?hx ?_)); (case hx => first | exact sq_of (by walk_at "hp") | exact .inl (sq_of (by walk_at "hp")) | exact rfl | (show _ = some (HO.lst _); walk_at "hp"))))
local macro_rules | `(tactic| walk_at "ex") => `(tactic| repeat (first | walk_at "ex1" | walk_at "rd"))
abbrev s_splitgood : Stmt := topS 26
theorem sc_splitgood : FnScope ["text", "told", "kept", "joined"] ["text"] (defScope s_splitgood) := ⟨rfl, rfl, rfl, by decide +kernel, rfl, by decide +kernel, by decide +kernel⟩
abbrev s_joingood : Stmt := topS 27
theorem sc_joingood : FnScope ["lines", "kept", "joined"] ["lines"] (defScope s_joingood) := ⟨rfl, rfl, rfl, by decide +kernel, rfl, by decide +kernel, by decide +kernel⟩
def spNumWords : Sp := fun vs H Q _ => ∃ (a c : Addr), vs = [.ref a] ∧ StoreAt H a c ∧ ∀ (p : Addr) (ws : List Str) (H' : Hp), StoreAt H' a c → But a H H' → H p = none → H' p = some (.lst (ws.map V.str)) → ws.length ≤ 10 → (∀ x ∈ ws, x.length ≤ 20000) → Q (.ref p) H'
theorem But.pushNew {a p : Addr} {H1 H2 : Hp} {o : HO} (np : H1 p = none) (h : But a (L2.upd H1 p o) H2) : But a H1 H2 := fun b x hb e => h b x hb (by rw [upd_ne (ne_of_none e np)]; exact e)
section
variable {P : Program} {w : World} {K : PySem.W.Frag} {mg : Str → Option Value} {base : Heap}
theorem ok_numberwords {f f_number f_pick f_numberword f_text : Addr} {fd fd_number fd_pick fd_numberword fd_text : FuncData} (B : Bi mg) (D : Dn K mg "_law_number_words" s_numberwords ["store"] f fd)
    (D_number : Dn K mg "_law_number" s_number ["store", "low", "high"] f_number fd_number) (D_pick : Dn K mg "_law_pick" s_pick ["store", "row"] f_pick fd_pick) (D_numberword : Dn K mg "_law_number_word" s_numberword ["store"] f_numberword fd_numberword) (D_text : Dn K mg "_law_text" s_text ["store", "high"] f_text fd_text)
    (G_number : FnOk P w K mg base CX0 4 f_number fd_number ["store", "low", "high"] spRange) (G_pick : FnOk P w K mg base CX0 3 f_pick fd_pick ["store", "row"] spPick)
    (G_numberword : FnOk P w K mg base CX0 5 f_numberword fd_numberword ["store"] spNumWord) (G_text : FnOk P w K mg base CX0 4 f_text fd_text ["store", "high"] spText) : FnOk P w K mg base CX0 6 f fd ["store"] spNumWords := by
  refine D.F.ok sc_numberwords (fun vs H Q E h => ?_) (fun cdv A outer s H vs Q E hr h => ?_)
  · obtain ⟨a, c, rfl, _⟩ := h
    rfl
  · obtain ⟨a, c, rfl, S, q⟩ := h
    refine ⟨_, (pss_cons (ps_set (i := 1) sc_numberwords.nd rfl (.inl rfl) (pe_op op_catL (pe_lc (own := [("k", 2)]) (g := gName 2) (tt := tYes) (by rfl) sc_numberwords.nd (pi_range1 (by rfl) B.range (pa_cons pe_int pa_nil)) (blkOk_by (own := [("k", 2)]) (N := ["store", "words", "k"]) (sc := defScope s_numberwords) (by decide +kernel)) (fun _ _ _ _ _ => pg_name (i := 2) sc_numberwords.nd rfl (Or.inl rfl)) (fun _ _ _ _ _ => pts_nil) (fun _ _ _ _ _ => (pe_call G_numberword (hr.mono (by omega)) (by rfl) D_numberword.g D_numberword.F.kp D_numberword.b .nil pass0 (pa_cons (pv 0) pa_nil)))) (pe_lst (pa_cons (pe_call G_text (hr.mono (by omega)) (by rfl) D_text.g D_text.F.kp D_text.b .nil pass0 (pa_cons (pv 0) (pa_cons pe_int pa_nil))) pa_nil))))
      (pss_cons (ps_expr (pe_bm PySem.F.plainAttrs_list PySem.F.slot_list_append PySem.F.type_list_append mt_append (pv 1) (pa_cons (pe_op op_mulS (pe_call G_pick (hr.mono (by omega)) (by rfl) D_pick.g D_pick.F.kp D_pick.b .nil pass0 (pa_cons (pv 0) (pa_cons pe_str pa_nil))) (pe_call G_number (hr.mono (by omega)) (by rfl) D_number.g D_number.F.kp D_number.b .nil pass0 (pa_cons (pv 0) (pa_cons pe_int (pa_cons pe_int pa_nil))))) pa_nil)))
      (pss_one (ps_ret (pv 1))))), ?_⟩
    walk_at "st"
    refine ⟨by decide, by decide, fun p np => ?_⟩
    have pa := S.ne1 np
    have pc := S.ne2 np
    refine r_lcR (fun i H' => StoreAt H' a c ∧ But a H H' ∧ ∃ ws : List Str, ws.length = i ∧ (∀ x ∈ ws, x.length ≤ 100) ∧ H' p = some (.lst (ws.map V.str))) (fun _ => rfl) ⟨S.new np, But.new np, [], rfl, by simp, upd_same⟩ ?_ ?_
    · rintro i H1 hi ⟨S1, b1, ws, hl, hw, hp⟩ N k
      walk_at "rt"
      refine ⟨a, c, rfl, S1, fun v H2 S2 b2 ⟨z, e, hz⟩ => ?_⟩
      subst e
      have hp2 := b2 p _ pa hp
      refine k _ _ _ hp2 (size_ok (by rw [List.length_map]; omega)) ⟨S2.put pa pc, (b1.trans b2).putNew np, ws ++ [z], by rw [List.length_append, hl]; rfl, fun x hx => ?_, by rw [upd_same, List.map_append]; rfl⟩
      rcases List.mem_append.mp hx with hx | hx
      · exact hw x hx
      · rw [List.mem_singleton.mp hx]; omega
    · rintro H1 ⟨S1, b1, ws, hl, hw, hp⟩
      walk_at "rt"
      refine ⟨a, c, _, rfl, S1, by decide, by decide, fun v H2 S2 b2 ⟨z, e, hz⟩ => ?_⟩
      subst e
      walk_at "rt"
      refine ⟨by decide, fun p2 np2 => ?_⟩
      have hp2 := b2 p _ pa hp
      have e12 : p ≠ p2 := ne_of_none hp2 np2
      refine ⟨_, (by rw [upd_ne e12]; exact hp2), _, upd_same, line_of (by rw [List.length_map, hl]; show 4 + 1 ≤ 16777216; decide), fun p3 np3 => ?_⟩
      have S3 := (S2.new (o := .lst [.str z]) np2).new (o := .lst (ws.map V.str ++ [.str z])) np3
      have b3 : But a H (L2.upd (L2.upd H2 p2 (.lst [.str z])) p3 (.lst (ws.map V.str ++ [.str z]))) := ((b1.trans b2).trans (But.new np2)).trans (But.new np3)
      have f2 : H2 p3 = none := by
        cases e : H2 p3 with
        | none => rfl
        | some o =>
          have e23 : p3 ≠ p2 := fun e2 => by rw [e2, np2] at e; cases e
          rw [upd_ne e23, e] at np3
          cases np3
      have f3 : H p3 = none := by
        cases e : H p3 with
        | none => rfl
        | some o =>
          have := (b1.trans b2) p3 o (S2.ne1 f2) e
          rw [f2] at this
          cases this
      have pa3 := S2.ne1 f2
      have pc3 := S2.ne2 f2
      have h3 : (L2.upd (L2.upd H2 p2 (.lst [.str z])) p3 (.lst (ws.map V.str ++ [.str z]))) p3 = some (.lst (ws.map V.str ++ [.str z])) := upd_same
      generalize L2.upd (L2.upd H2 p2 (.lst [.str z])) p3 (.lst (ws.map V.str ++ [.str z])) = H3 at S3 b3 h3
      walk_at "st"
      refine ⟨.inl ⟨rfl, _, sq_of h3⟩, ?_⟩
      refine ⟨a, c, _, rfl, S3, by decide +kernel, by decide +kernel, fun v H4 S4 b4 ⟨kk, _, e⟩ => ?_⟩
      subst e
      walk_at "rt"
      refine ⟨a, c, 1, 20000, rfl, S4, by decide, by decide, fun v H5 S5 b5 ⟨n, e, n0, n1⟩ => ?_⟩
      subst e
      have h5 := b5 p3 _ pa3 (b4 p3 _ pa3 h3)
      walk_at "rt"
      have hm := mul_le (z := ⟨#[kk]⟩) (n := n) (L := 1) (N := 20000) (by show 1 ≤ 1; decide) (by omega)
      refine ⟨1, by show 1 ≤ 1; decide, 20000, by omega, by omega, by decide, by decide, _, h5, size_ok (by rw [List.length_append, List.length_map, hl]; show 4 + 1 ≤ 1000000; decide), ?_⟩
      refine q p3 (ws ++ [z] ++ [Txt.mul ⟨#[kk]⟩ n]) _ (S5.put pa3 pc3) (((b3.trans b4).trans b5).putNew f3) f3 (by rw [upd_same, List.map_append, List.map_append]; rfl) (by rw [List.length_append, List.length_append, hl]; show 4 + 1 + 1 ≤ 10; decide) fun x hx => ?_
      rcases List.mem_append.mp hx with hx | hx
      · rcases List.mem_append.mp hx with hx | hx
        · have := hw x hx
          omega
        · rw [List.mem_singleton.mp hx]; omega
      · rw [List.mem_singleton.mp hx]; omega
end
end K01
namespace K01
open PySem PySem.Spec PyProof.Rows L2 TL
local macro_rules | `(tactic| walk_at "rd") => `(tactic| simp only [start1, wipe, isR, isBool, isInt, isStr, isLst, isTup, tAsg, gName, gSub, tVar, tC, tOp, tUn, tTest, tIfS, tRet, tRetN, tDrop, tB, tAnd, tOr, tNot, tAndV, tOrV, tNotV, tIf, tCB, tCons, tNil, tNext, tCall, tBM, tTup, tLst, rI0, rI, rEq, rNe, scal, forR_eq, forR2_eq, forS_eq, forL_eq, lcL_eq, lcR_eq, lcS_eq, rLenX, rLenS, rMulS, rRepL, rCatL, tPart, tNoPart, CwR.tReplC, rAllK, rInSg, rNinSg, sgn_inj, rAddS, rInSt, tChain, tM1, tM0, rSplitN, rJoinN, exists_eq, rIntI, rIntB, rIntS, rStrI, rAbs, rOrd, rMin, rMax, rIxL, rIxX, rSetL, rAppend, rIxS, rSlS, rSlL, tSl, List.map_cons, List.map_nil, List.replicate_succ, List.replicate_zero, List.length_cons, List.length_nil, Nat.reduceSub, Nat.reduceAdd, Nat.zero_add, Nat.sub_self, List.getElem?_cons_zero, List.getElem?_cons_succ, List.set_cons_zero, List.set_cons_succ, List.append_nil, List.nil_append, List.cons_append, Option.some.injEq, not_true_eq_false, reduceCtorEq, exists_eq_left', exists_eq_left, exists_eq', exists_and_left, exists_and_right, V.int.injEq, V.str.injEq, V.bl.injEq, V.ref.injEq, List.cons.injEq, and_true, true_and, and_assoc, decide_eq_true_eq, Bool.not_eq_true', decide_eq_false_iff_not, ite_true, ite_false, if_true, if_false, Bool.not_true, Bool.not_false, Bool.false_eq_true, eq_self_iff_true, reduceIte, ne_eq, Int.reduceEq, not_false_eq_true])
local macro_rules | `(tactic| walk_at "rt") => `(tactic| try walk_at "rd")
local macro_rules | `(tactic| walk_at "st") => `(tactic| (walk_at "rt"; refine r_seq ?_; walk_at "rt"))
local macro_rules | `(tactic| walk_at "hp") => `(tactic| first | assumption | exact upd_same | (rw [upd_ne (by assumption)]; walk_at "hp"))
local macro_rules | `(tactic| walk_at "ex1") => `(tactic| ((with_reducible refine Exists.intro ?w (And.intro ?hx ?_)); (case hx => first | exact sq_of (by walk_at "hp") | exact .inl (sq_of (by walk_at "hp")) | exact rfl | (show _ = some (HO.lst _); walk_at "hp"))))
local macro_rules | `(tactic| walk_at "ex") => `(tactic| repeat (first | walk_at "ex1" | walk_at "rd"))
theorem Same.putNew {p : Addr} {H1 H4 : Hp} {o : HO} (h : Same H1 H4) (np : H1 p = none) : Same H1 (L2.upd H4 p o) := fun b x e => by
  rw [upd_ne (ne_of_none e np)]
  exact h b x e
theorem At.any {H H' : Hp} {A : Addr → Prop} {d : Dat} {v : V} (h : At H A d v) (s : Same H H') : At H' A d v := At.mono (fun _ h => h) (fun p o _ e => s p o e) d v h
def spGood : Sp := fun vs H Q _ => ∃ (z : Str), vs = [.str z] ∧ z.length ≤ 100000 ∧ ∀ H', Same H H' → Q (.bl true) H'
section
variable {P : Program} {w : World} {K : PySem.W.Frag} {mg : Str → Option Value} {base : Heap}
theorem ok_splitgood {f f_splitwords f_plain f_put f_copy f_joinwords f_same : Addr} {fd fd_splitwords fd_plain fd_put fd_copy fd_joinwords fd_same : FuncData} (B : Bi mg) (D : Dn K mg "_law_split_good" s_splitgood ["text"] f fd)
    (D_splitwords : Dn K mg "split_words" s_splitwords ["text"] f_splitwords fd_splitwords) (D_plain : Dn K mg "_law_plain" s_plain ["lines"] f_plain fd_plain) (D_put : Dn K mg "_law_put" s_put ["lines"] f_put fd_put)
    (D_copy : Dn K mg "_law_copy" s_copy ["thing"] f_copy fd_copy) (D_joinwords : Dn K mg "join_words" s_joinwords ["lines"] f_joinwords fd_joinwords) (D_same : Dn K mg "_law_same" s_same ["one", "two"] f_same fd_same)
    (G_splitwords : FnOk P w K mg base CX0 1 f_splitwords fd_splitwords ["text"] spSplit) (G_plain : FnOk P w K mg base CX0 1 f_plain fd_plain ["lines"] spPlain) (G_put : FnOk P w K mg base CX0 1 f_put fd_put ["lines"] spPut)
    (G_copy : FnOk P w K mg base CX0 4 f_copy fd_copy ["thing"] (spCopy 3)) (G_joinwords : FnOk P w K mg base CX0 1 f_joinwords fd_joinwords ["lines"] spJoin) (G_same : FnOk P w K mg base CX0 6 f_same fd_same ["one", "two"] (spSame 2)) :
    FnOk P w K mg base CX0 7 f fd ["text"] spGood := by
  refine D.F.ok sc_splitgood (fun vs H Q E h => ?_) (fun cdv A outer s H vs Q E hr h => ?_)
  · obtain ⟨z, rfl, _⟩ := h
    rfl
  · obtain ⟨z, rfl, hz, q⟩ := h
    have htot := splitW_tot z
    have hdep := dep_lines (splitW z)
    refine ⟨_, (pss_cons (ps_set (i := 1) sc_splitgood.nd rfl (.inl rfl) (pe_call G_splitwords (hr.mono (by omega)) (by rfl) D_splitwords.g D_splitwords.F.kp D_splitwords.b .nil pass0 (pa_cons (pv 0) pa_nil)))
      (pss_cons (ps_if (PW.pt (pw_or (pt_not (pt_val (pe_call G_plain (hr.mono (by omega)) (by rfl) D_plain.g D_plain.F.kp D_plain.b .nil pass0 (pa_cons (pv 1) pa_nil)))) (pw_or1 (pt_cmpR op_ne (pe_call G_put (hr.mono (by omega)) (by rfl) D_put.g D_put.F.kp D_put.b .nil pass0 (pa_cons (pv 1) pa_nil)) (pv 0) (nomark _))))) (pss_one (ps_ret pe_bl)) pss_nil)
      (pss_cons (ps_set (i := 2) sc_splitgood.nd rfl (.inl rfl) (pe_call G_copy (hr.mono (by omega)) (by rfl) D_copy.g D_copy.F.kp D_copy.b .nil pass0 (pa_cons (pv 1) pa_nil)))
      (pss_cons (ps_set (i := 3) sc_splitgood.nd rfl (.inl rfl) (pe_call G_joinwords (hr.mono (by omega)) (by rfl) D_joinwords.g D_joinwords.F.kp D_joinwords.b .nil pass0 (pa_cons (pv 1) pa_nil)))
      (pss_cons (ps_if (PW.pt (pw_or (pt_not (pt_val (pe_call G_same (hr.mono (by omega)) (by rfl) D_same.g D_same.F.kp D_same.b .nil pass0 (pa_cons (pv 3) (pa_cons (pv 0) pa_nil))))) (pw_or1 (pt_not (pt_val (pe_call G_same (hr.mono (by omega)) (by rfl) D_same.g D_same.F.kp D_same.b .nil pass0 (pa_cons (pv 1) (pa_cons (pv 2) pa_nil)))))))) (pss_one (ps_ret pe_bl)) pss_nil)
      (pss_cons (ps_expr (pe_bm PySem.F.plainAttrs_list PySem.F.slot_list_append PySem.F.type_list_append mt_append (pe_ix (ix_listK (K := K)) (pv 1) pe_int (fun _ _ => rfl)) (pa_cons pe_str pa_nil)))
      (pss_cons (ps_expr (pe_bm PySem.F.plainAttrs_list PySem.F.slot_list_append PySem.F.type_list_append mt_append (pv 1) (pa_cons (pe_lst (pa_cons pe_str pa_nil)) pa_nil)))
      (pss_one (ps_ret (pe_call G_same (hr.mono (by omega)) (by rfl) D_same.g D_same.F.kp D_same.b .nil pass0 (pa_cons (pe_call G_splitwords (hr.mono (by omega)) (by rfl) D_splitwords.g D_splitwords.F.kp D_splitwords.b .nil pass0 (pa_cons (pv 0) pa_nil)) (pa_cons (pv 2) pa_nil)))))))))))), ?_⟩
    walk_at "st"
    refine ⟨z, rfl, hz, fun v1 H1 s1 a1 => ?_⟩
    walk_at "st"
    refine ⟨v1, _, splitW z, rfl, a1, ?_⟩
    rw [(plainB_iff (splitW z)).mpr (splitW_plain z)]
    walk_at "rt"
    refine ⟨v1, _, splitW z, rfl, a1, by omega, ?_⟩
    rw [joinW_splitW]
    walk_at "rt"
    walk_at "st"
    refine ⟨v1, _, linesD (splitW z), rfl, a1, noTup_lines _, hdep, fun v2 H2 s2 a2 => ?_⟩
    walk_at "st"
    refine ⟨v1, _, splitW z, rfl, a1.any s2, by omega, fun H3 s3 => ?_⟩
    rw [joinW_splitW]
    walk_at "st"
    have a13 := (a1.any s2).any s3
    have a23 := a2.any s3
    refine ⟨.str z, .str z, fun _ => True, fun _ => True, .str z, .str z, rfl, rfl, rfl, Nat.zero_le _, ?_⟩
    rw [same_refl]
    walk_at "rt"
    refine ⟨v1, v2, _, _, linesD (splitW z), linesD (splitW z), rfl, a13, a23, hdep, ?_⟩
    rw [same_refl]
    walk_at "rt"
    obtain ⟨a, rs, rfl, na, ha, hrl, hl, hrs⟩ := at_lines a13
    have hpl := splitW_plain z
    obtain ⟨w0, wt, hw⟩ : ∃ w0 wt, splitW z = w0 :: wt := by
      cases e : splitW z with
      | nil => exact absurd e hpl.1
      | cons w0 wt => exact ⟨w0, wt, rfl⟩
    obtain ⟨r0, rt, hr0⟩ : ∃ r0 rt, rs = r0 :: rt := by
      cases e : rs with
      | nil => rw [e, hw] at hrl; cases hrl
      | cons r0 rt => exact ⟨r0, rt, rfl⟩
    obtain ⟨nr0, hr03, hw0l⟩ := hrs 0 r0 w0 (by rw [hr0]; rfl) (by rw [hw]; rfl)
    have hw0 : w0 ≠ [] := (hpl.2 w0 (by rw [hw]; exact List.mem_cons_self)).1
    have nar : r0 ≠ a := fun e => by
      rw [e, ha, hr0] at hr03
      cases w0 with
      | nil => exact hw0 rfl
      | cons x t => cases hr03
    have at0 : atI (rs.map V.ref) 0 = some (.ref r0) := by rw [hr0]; exact atI_nat (j := 0) rfl
    walk_at "st"
    refine ⟨_, sq_of ha, _, at0, .inl ⟨rfl, _, sq_of hr03⟩, ?_⟩
    walk_at "rt"
    refine ⟨_, hr03, size_ok (by rw [List.length_map]; exact hw0l), ?_⟩
    have s13 : Same H1 H3 := s2.trans s3
    have s03 : Same H H3 := s1.trans s13
    have h1r0 : H1 r0 ≠ none := by
      obtain ⟨_, rs1, e1, _, hx1, hrl1, _, hrs1⟩ := at_lines a1
      cases e1
      have e2 := (s13 _ _ hx1).symm.trans ha
      injection e2 with e2
      injection e2 with e2
      have e3 : rs1 = rs := by
        have := congrArg (List.filterMap fun v : V => match v with | .ref r => some r | _ => none) e2
        rw [List.filterMap_map, List.filterMap_map] at this
        have k : ∀ l : List Addr, l.filterMap ((fun v : V => match v with | .ref r => some r | _ => none) ∘ V.ref) = l := fun l => by
          induction l with
          | nil => rfl
          | cons x t ih => rw [List.filterMap_cons, ih]; rfl
        rw [k, k] at this
        exact this
      subst e3
      rw [(hrs1 0 r0 w0 (by rw [hr0]; rfl) (by rw [hw]; rfl)).2.1]
      exact fun e => by cases e
    have h1a : H1 a ≠ none := by
      obtain ⟨_, rs1, e1, _, hx1, _⟩ := at_lines a1
      cases e1
      rw [hx1]
      exact fun e => by cases e
    generalize hH4 : L2.upd H3 r0 _ = H4
    have s04 : Same H H4 := by rw [← hH4]; exact Same.putNew s03 nr0
    have ha4 : H4 a = some (.lst (rs.map V.ref)) := by rw [← hH4, upd_ne nar.symm]; exact ha
    walk_at "st"
    refine ⟨.inl ⟨rfl, _, sq_of ha4⟩, by decide, fun p np => ?_⟩
    have nap : a ≠ p := ne_of_none ha4 np
    refine ⟨_, by rw [upd_ne nap]; exact ha4, size_ok (by rw [List.length_map]; omega), ?_⟩
    generalize hH5 : L2.upd (L2.upd H4 p _) a _ = H5
    have s05 : Same H H5 := by rw [← hH5]; exact Same.putNew (s04.trans (Same.new np)) na
    walk_at "rt"
    refine ⟨z, rfl, hz, fun v6 H6 s6 a6 => ?_⟩
    have a26 : At H6 (fun q => H1 q = none) (linesD (splitW z)) v2 := At.mono (fun _ h => h) (fun q o hq e => s6 _ _ (by
      have n1 : q ≠ r0 := fun e => h1r0 (by rw [← e]; exact hq)
      have n2 : q ≠ a := fun e => h1a (by rw [← e]; exact hq)
      rw [← hH5, upd_ne n2]
      have e4 : H4 q = some o := by rw [← hH4, upd_ne n1]; exact e
      rw [upd_ne (ne_of_none e4 np)]
      exact e4)) _ _ a23
    refine ⟨v6, v2, _, _, linesD (splitW z), linesD (splitW z), rfl, a6, a26, hdep, ?_⟩
    rw [same_refl]
    exact q _ (s05.trans s6)
end
end K01
namespace K01
open PySem PySem.Spec PyProof.Rows L2 TL
local macro_rules | `(tactic| walk_at "rd") => `(tactic| simp only [start1, wipe, isR, isBool, isInt, isStr, isLst, isTup, tAsg, gName, gSub, tVar, tC, tOp, tUn, tTest, tIfS, tRet, tRetN, tDrop, tB, tAnd, tOr, tNot, tAndV, tOrV, tNotV, tIf, tCB, tCons, tNil, tNext, tCall, tBM, tTup, tLst, rI0, rI, rEq, rNe, scal, forR_eq, forR2_eq, forS_eq, forL_eq, lcL_eq, lcR_eq, lcS_eq, rLenX, rLenS, rMulS, rRepL, rCatL, tPart, tNoPart, CwR.tReplC, rAllK, rInSg, rNinSg, sgn_inj, rAddS, rInSt, tChain, tM1, tM0, rSplitN, rJoinN, exists_eq, rIntI, rIntB, rIntS, rStrI, rAbs, rOrd, rMin, rMax, rIxL, rIxX, rSetL, rAppend, rIxS, rSlS, rSlL, tSl, List.map_cons, List.map_nil, List.replicate_succ, List.replicate_zero, List.length_cons, List.length_nil, Nat.reduceSub, Nat.reduceAdd, Nat.zero_add, Nat.sub_self, List.getElem?_cons_zero, List.getElem?_cons_succ, List.set_cons_zero, List.set_cons_succ, List.append_nil, List.nil_append, List.cons_append, Option.some.injEq, not_true_eq_false, reduceCtorEq, exists_eq_left', exists_eq_left, exists_eq', exists_and_left, exists_and_right, V.int.injEq, V.str.injEq, V.bl.injEq, V.ref.injEq, List.cons.injEq, and_true, true_and, and_assoc, decide_eq_true_eq, Bool.not_eq_true', decide_eq_false_iff_not, ite_true, ite_false, if_true, if_false, Bool.not_true, Bool.not_false, Bool.false_eq_true, eq_self_iff_true, reduceIte, ne_eq, Int.reduceEq, not_false_eq_true])
local macro_rules | `(tactic| walk_at "rt") => `(tactic| try walk_at "rd")
local macro_rules | `(tactic| walk_at "st") => `(tactic| (walk_at "rt"; refine r_seq ?_; walk_at "rt"))
local macro_rules | `(tactic| walk_at "hp") => `(tactic| first | assumption | exact upd_same | (rw [upd_ne (by assumption)]; walk_at "hp"))
local macro_rules | `(tactic| walk_at "ex1") => `(tactic| ((with_reducible refine Exists.intro ?w (And.intro ?hx ?_)); (case hx => first | exact sq_of (by walk_at "hp") | exact .inl (sq_of (by walk_at "hp")) | exact rfl | (show _ = some (HO.lst _); walk_at "hp"))))
local macro_rules | `(tactic| walk_at "ex") => `(tactic| repeat (first | walk_at "ex1" | walk_at "rd"))
theorem mk_lines {H : Hp} {A : Addr → Prop} {a : Addr} (ls : Lines) (rs : List Addr) (ha : A a) (hx : H a = some (.lst (rs.map V.ref))) (hl : rs.length = ls.length) (hz : ls.length ≤ 1000000)
    (hi : ∀ (i : Nat) (r : Addr) (ws : List Str), rs[i]? = some r → ls[i]? = some ws → A r ∧ H r = some (.lst (ws.map V.str)) ∧ ws.length ≤ 1000000) : At H A (linesD ls) (.ref a) := by
  refine ⟨a, _, rfl, ha, hx, by rw [List.length_map]; omega, ?_⟩
  clear ha hx hz
  have key : ∀ (ls : Lines) (rs : List Addr), rs.length = ls.length → (∀ (i : Nat) (r : Addr) (ws : List Str), rs[i]? = some r → ls[i]? = some ws → A r ∧ H r = some (.lst (ws.map V.str)) ∧ ws.length ≤ 1000000) → AtL H A (ls.map strsD) (rs.map V.ref) := by
    intro ls
    induction ls with
    | nil =>
      intro rs hl _
      rw [List.length_eq_zero_iff.mp hl]
      rfl
    | cons w t ih =>
      intro rs hl hi
      cases rs with
      | nil => cases hl
      | cons r rt =>
        obtain ⟨h1, h2, h3⟩ := hi 0 r w rfl rfl
        exact ⟨_, _, rfl, ⟨r, _, rfl, h1, h2, by rw [List.length_map]; exact h3, atL_of w⟩, ih rt (by simpa using hl) fun i r ws e1 e2 => hi (i + 1) r ws e1 e2⟩
  exact key ls rs hl hi
/-- the list of the lines is no line -/
theorem line_ne {H : Hp} {a r : Addr} {rs : List Addr} {ws : List Str} {i : Nat} (ha : H a = some (.lst (rs.map V.ref))) (hr : rs[i]? = some r) (hw : H r = some (.lst (ws.map V.str))) : r ≠ a := fun e => by
  rw [e, ha] at hw
  injection hw with hw
  injection hw with hw
  have h1 : (rs.map V.ref)[i]? = some (.ref r) := by rw [List.getElem?_map, hr]; rfl
  rw [hw] at h1
  obtain ⟨x, _, hx⟩ := map_get h1
  cases hx
def extra : List Str := [Str.ofString "a", Str.ofString ""]
theorem tot_extra (ls : Lines) : totW (ls ++ [extra]) = totW ls + 4 := by
  have h : (extra.map (·.length)).sum + extra.length + 1 = 4 := by decide +kernel
  unfold totW
  rw [List.map_append, List.sum_append, List.map_singleton, h]
  rfl
/-- a line more: at a, whose list was rs, now behind it p -/
theorem lines_more {H H' : Hp} {A : Addr → Prop} {b p : Addr} {ls : Lines} {rs : List Addr} (hl : rs.length = ls.length) (hz : ls.length ≤ 100000) (hi : ∀ (i : Nat) (r : Addr) (ws : List Str), rs[i]? = some r → ls[i]? = some ws → A r ∧ H r = some (.lst (ws.map V.str)) ∧ ws.length ≤ 1000000)
    (keep : ∀ (i : Nat) (r : Addr) (ws : List Str), rs[i]? = some r → ls[i]? = some ws → H' r = H r) (hb : H' b = some (.lst ((rs ++ [p]).map V.ref))) (hp : H' p = some (.lst (extra.map V.str))) : At H' (fun _ => True) (linesD (ls ++ [extra])) (.ref b) := by
  refine mk_lines _ (rs ++ [p]) trivial hb (by rw [List.length_append, List.length_append, hl]; rfl) (by rw [List.length_append]; show ls.length + 1 ≤ _; omega) fun i r ws h1 h2 => ?_
  by_cases hlt : i < rs.length
  · rw [List.getElem?_append_left hlt] at h1
    rw [List.getElem?_append_left (by omega)] at h2
    obtain ⟨_, h3, h4⟩ := hi i r ws h1 h2
    exact ⟨trivial, by rw [keep i r ws h1 h2]; exact h3, h4⟩
  · have := lt_of_get h1
    rw [List.length_append] at this
    have e : i = rs.length := by
      have : ([p] : List Addr).length = 1 := rfl
      omega
    subst e
    rw [List.getElem?_append_right (Nat.le_refl _), Nat.sub_self] at h1
    rw [hl, List.getElem?_append_right (Nat.le_refl _), Nat.sub_self] at h2
    cases h1
    cases h2
    exact ⟨trivial, hp, by decide +kernel⟩
def spJGood : Sp := fun vs H Q _ => ∃ (a : Addr) (A : Addr → Prop) (ls : Lines), vs = [.ref a] ∧ At H A (linesD ls) (.ref a) ∧ totW ls ≤ 90000 ∧ ∀ H', But a H H' → Q (.bl true) H'
section
variable {P : Program} {w : World} {K : PySem.W.Frag} {mg : Str → Option Value} {base : Heap}
theorem ok_joingood {f f_splitwords f_plain f_put f_copy f_joinwords f_same : Addr} {fd fd_splitwords fd_plain fd_put fd_copy fd_joinwords fd_same : FuncData} (B : Bi mg) (D : Dn K mg "_law_join_good" s_joingood ["lines"] f fd)
    (D_splitwords : Dn K mg "split_words" s_splitwords ["text"] f_splitwords fd_splitwords) (D_plain : Dn K mg "_law_plain" s_plain ["lines"] f_plain fd_plain) (D_put : Dn K mg "_law_put" s_put ["lines"] f_put fd_put)
    (D_copy : Dn K mg "_law_copy" s_copy ["thing"] f_copy fd_copy) (D_joinwords : Dn K mg "join_words" s_joinwords ["lines"] f_joinwords fd_joinwords) (D_same : Dn K mg "_law_same" s_same ["one", "two"] f_same fd_same)
    (G_splitwords : FnOk P w K mg base CX0 1 f_splitwords fd_splitwords ["text"] spSplit) (G_plain : FnOk P w K mg base CX0 1 f_plain fd_plain ["lines"] spPlain) (G_put : FnOk P w K mg base CX0 1 f_put fd_put ["lines"] spPut)
    (G_copy : FnOk P w K mg base CX0 4 f_copy fd_copy ["thing"] (spCopy 3)) (G_joinwords : FnOk P w K mg base CX0 1 f_joinwords fd_joinwords ["lines"] spJoin) (G_same : FnOk P w K mg base CX0 6 f_same fd_same ["one", "two"] (spSame 2)) :
    FnOk P w K mg base CX0 7 f fd ["lines"] spJGood := by
  refine D.F.ok sc_joingood (fun vs H Q E h => ?_) (fun cdv A outer s H vs Q E hr h => ?_)
  · obtain ⟨a, A, ls, rfl, _⟩ := h
    rfl
  · obtain ⟨a, A1, ls, rfl, a0, htot, q⟩ := h
    have hdep := dep_lines ls
    have hlen := totW_len ls
    have hjl : (joinW ls).length ≤ totW ls := by
      have := joinW_len ls ls.length
      rw [List.take_length] at this
      exact this
    refine ⟨_, (pss_cons (ps_set (i := 1) sc_joingood.nd rfl (.inl rfl) (pe_call G_copy (hr.mono (by omega)) (by rfl) D_copy.g D_copy.F.kp D_copy.b .nil pass0 (pa_cons (pv 0) pa_nil)))
      (pss_cons (ps_set (i := 2) sc_joingood.nd rfl (.inl rfl) (pe_call G_joinwords (hr.mono (by omega)) (by rfl) D_joinwords.g D_joinwords.F.kp D_joinwords.b .nil pass0 (pa_cons (pv 0) pa_nil)))
      (pss_cons (ps_if (PW.pt (pw_or (pt_not (pt_val (pe_call G_same (hr.mono (by omega)) (by rfl) D_same.g D_same.F.kp D_same.b .nil pass0 (pa_cons (pv 2) (pa_cons (pe_call G_put (hr.mono (by omega)) (by rfl) D_put.g D_put.F.kp D_put.b .nil pass0 (pa_cons (pv 1) pa_nil)) pa_nil))))) (pw_or1 (pt_not (pt_val (pe_call G_same (hr.mono (by omega)) (by rfl) D_same.g D_same.F.kp D_same.b .nil pass0 (pa_cons (pv 0) (pa_cons (pv 1) pa_nil)))))))) (pss_one (ps_ret pe_bl)) pss_nil)
      (C8.pss_cut (ps_if (PW.pt (pw_and (pt_val (pe_call G_plain (hr.mono (by omega)) (by rfl) D_plain.g D_plain.F.kp D_plain.b .nil pass0 (pa_cons (pv 1) pa_nil))) (pw_and1 (pt_not (pt_val (pe_call G_same (hr.mono (by omega)) (by rfl) D_same.g D_same.F.kp D_same.b .nil pass0 (pa_cons (pe_call G_splitwords (hr.mono (by omega)) (by rfl) D_splitwords.g D_splitwords.F.kp D_splitwords.b .nil pass0 (pa_cons (pv 2) pa_nil)) (pa_cons (pv 1) pa_nil)))))))) (pss_one (ps_ret pe_bl)) pss_nil)
      (pss_cons (ps_expr (pe_bm PySem.F.plainAttrs_list PySem.F.slot_list_append PySem.F.type_list_append mt_append (pv 0) (pa_cons (pe_lst (pa_cons pe_str (pa_cons pe_str pa_nil))) pa_nil)))
      (pss_one (ps_ret (pe_and (pe_call G_same (hr.mono (by omega)) (by rfl) D_same.g D_same.F.kp D_same.b .nil pass0 (pa_cons (pe_call G_joinwords (hr.mono (by omega)) (by rfl) D_joinwords.g D_joinwords.F.kp D_joinwords.b .nil pass0 (pa_cons (pv 0) pa_nil)) (pa_cons (pe_call G_put (hr.mono (by omega)) (by rfl) D_put.g D_put.F.kp D_put.b .nil pass0 (pa_cons (pe_op op_catL (pv 1) (pe_lst (pa_cons (pe_lst (pa_cons pe_str (pa_cons pe_str pa_nil))) pa_nil))) pa_nil)) pa_nil))) (pe_one (pe_call G_same (hr.mono (by omega)) (by rfl) D_same.g D_same.F.kp D_same.b .nil pass0 (pa_cons (pe_call G_joinwords (hr.mono (by omega)) (by rfl) D_joinwords.g D_joinwords.F.kp D_joinwords.b .nil pass0 (pa_cons (pv 1) pa_nil)) (pa_cons (pv 2) pa_nil)))))))))))), ?_⟩
    walk_at "st"
    refine ⟨.ref a, _, linesD ls, rfl, a0, noTup_lines _, hdep, fun v2 H2 s2 a2 => ?_⟩
    walk_at "st"
    refine ⟨.ref a, _, ls, rfl, a0.any s2, by omega, fun H3 s3 => ?_⟩
    have a03 := (a0.any s2).any s3
    have a23 := a2.any s3
    walk_at "st"
    refine ⟨v2, _, ls, rfl, a23, by omega, ?_⟩
    walk_at "rt"
    refine ⟨.str (joinW ls), .str (joinW ls), fun _ => True, fun _ => True, .str (joinW ls), .str (joinW ls), rfl, rfl, rfl, Nat.zero_le _, ?_⟩
    rw [same_refl]
    walk_at "rt"
    refine ⟨.ref a, v2, _, _, linesD ls, linesD ls, rfl, a03, a23, hdep, ?_⟩
    rw [same_refl]
    walk_at "rt"
    refine r_cut (fun σ' H' => σ' = [some (.ref a), some v2, some (.str (joinW ls))] ∧ Same H3 H') (fun N k => ?_) ?_
    · walk_at "rt"
      refine ⟨v2, _, ls, rfl, a23, ?_⟩
      walk_at "rt"
      refine ite2 (fun hb => ?_) (fun _ => k _ _ ⟨rfl, Same.refl _⟩)
      have hp := (plainB_iff ls).mp hb
      refine ⟨joinW ls, rfl, by omega, fun v4 H4 s4 a4 => ?_⟩
      rw [splitW_joinW hp] at a4
      walk_at "rt"
      refine ⟨v4, v2, _, _, linesD ls, linesD ls, rfl, a4, a23.any s4, hdep, ?_⟩
      rw [same_refl]
      walk_at "rt"
      exact k _ _ ⟨rfl, s4⟩
    · rintro σ' H4 ⟨rfl, s4⟩
      have s24 := s3.trans s4
      have a04 := a03.any s4
      have a24 := a23.any s4
      obtain ⟨_, rs, e, _, ha, hrl, hl, hrs⟩ := at_lines a04
      cases e
      have nex : extra.map V.str = [V.str (Str.ofString "a"), V.str (Str.ofString "")] := rfl
      walk_at "st"
      refine ⟨.inl ⟨rfl, _, sq_of ha⟩, by decide, fun p np => ?_⟩
      have nap : a ≠ p := ne_of_none ha np
      refine ⟨_, by rw [upd_ne nap]; exact ha, size_ok (by rw [List.length_map]; omega), ?_⟩
      generalize hH5 : L2.upd (L2.upd H4 p _) a _ = H5
      have ne5 : ∀ q o, q ≠ a → H4 q = some o → H5 q = some o := fun q o n e => by
        rw [← hH5, upd_ne n, upd_ne (ne_of_none e np)]
        exact e
      have b5 : But a H H5 := fun b o n e => ne5 b o n (s4 b o (s3 b o (s2 b o e)))
      have a05 : At H5 (fun _ => True) (linesD (ls ++ [extra])) (.ref a) := by
        refine lines_more (p := p) hrl (by omega) hrs (fun i r ws h1 h2 => ?_) ?_ ?_
        · obtain ⟨_, h3, _⟩ := hrs i r ws h1 h2
          rw [h3]
          exact ne5 r _ (line_ne ha h1 h3) h3
        · rw [← hH5, upd_same, List.map_append]
          rfl
        · rw [← hH5, upd_ne nap.symm, upd_same]
          rfl
      have n0a : H a ≠ none := by
        obtain ⟨_, _, e, _, h, _⟩ := at_lines a0
        cases e
        rw [h]
        exact fun e => by cases e
      have a25 : At H5 (fun q => H q = none) (linesD ls) v2 := At.mono (fun _ h => h) (fun q o hq e => ne5 q o (fun e2 => n0a (by rw [← e2]; exact hq)) e) _ _ a24
      walk_at "rt"
      refine ⟨.ref a, _, ls ++ [extra], rfl, a05, by rw [tot_extra]; omega, fun H6 s6 => ?_⟩
      obtain ⟨kk, rs2, e, _, hk, hrl2, hl2, hrs2⟩ := at_lines (a25.any s6)
      subst e
      walk_at "rt"
      refine ⟨by decide, fun p1 np1 => ?_⟩
      refine ⟨by decide, fun p2 np2 => ?_⟩
      have nk1 : kk ≠ p1 := ne_of_none hk np1
      have h61 : (L2.upd H6 p1 (.lst (extra.map V.str))) kk = some (.lst (rs2.map V.ref)) := by rw [upd_ne nk1]; exact hk
      have nk2 : kk ≠ p2 := ne_of_none h61 np2
      refine ⟨_, by rw [upd_ne nk2]; exact h61, _, upd_same, line_of (by rw [List.length_map]; show rs2.length + 1 ≤ _; omega), fun p3 np3 => ?_⟩
      have s63 : Same H6 (L2.upd (L2.upd (L2.upd H6 p1 (.lst (extra.map V.str))) p2 (.lst [.ref p1])) p3 (.lst (rs2.map V.ref ++ [.ref p1]))) := ((Same.new np1).trans (Same.new np2)).trans (Same.new np3)
      have h1 : (L2.upd H6 p1 (.lst (extra.map V.str))) p1 = some (.lst (extra.map V.str)) := upd_same
      have n12 : p1 ≠ p2 := ne_of_none h1 np2
      have h2 : (L2.upd (L2.upd H6 p1 (.lst (extra.map V.str))) p2 (.lst [.ref p1])) p1 = some (.lst (extra.map V.str)) := by rw [upd_ne n12]; exact h1
      have n13 : p1 ≠ p3 := ne_of_none h2 np3
      have a7 : At (L2.upd (L2.upd (L2.upd H6 p1 (.lst (extra.map V.str))) p2 (.lst [.ref p1])) p3 (.lst (rs2.map V.ref ++ [.ref p1]))) (fun _ => True) (linesD (ls ++ [extra])) (.ref p3) := by
        refine lines_more (p := p1) hrl2 (by omega) hrs2 (fun i r ws e1 e2 => ?_) ?_ ?_
        · obtain ⟨_, h3, _⟩ := hrs2 i r ws e1 e2
          rw [h3]
          exact s63 _ _ h3
        · rw [upd_same, List.map_append]
          rfl
        · rw [upd_ne n13]
          exact h2
      refine ⟨.ref p3, _, ls ++ [extra], rfl, a7, by rw [tot_extra]; omega, ?_⟩
      walk_at "rt"
      refine ⟨.str (joinW (ls ++ [extra])), .str (joinW (ls ++ [extra])), fun _ => True, fun _ => True, .str (joinW (ls ++ [extra])), .str (joinW (ls ++ [extra])), rfl, rfl, rfl, Nat.zero_le _, ?_⟩
      rw [same_refl]
      walk_at "rt"
      refine ⟨.ref kk, _, ls, rfl, (a25.any s6).any s63, by omega, fun H8 s8 => ?_⟩
      walk_at "rt"
      refine ⟨.str (joinW ls), .str (joinW ls), fun _ => True, fun _ => True, .str (joinW ls), .str (joinW ls), rfl, rfl, rfl, Nat.zero_le _, ?_⟩
      rw [same_refl]
      exact q _ (b5.trans (But.of ((s6.trans s63).trans s8)))
end
end K01
namespace K01
open PySem PySem.Spec PyProof.Rows L2 TL
local macro_rules | `(tactic| walk_at "rd") => `(tactic| simp only [start1, wipe, isR, isBool, isInt, isStr, isLst, isTup, tAsg, gName, gSub, tVar, tC, tOp, tUn, tTest, tIfS, tRet, tRetN, tDrop, tB, tAnd, tOr, tNot, tAndV, tOrV, tNotV, tIf, tCB, tCons, tNil, tNext, tCall, tBM, tTup, tLst, rI0, rI, rEq, rNe, scal, forR_eq, forR2_eq, forS_eq, forL_eq, lcL_eq, lcR_eq, lcS_eq, rLenX, rLenS, rMulS, rRepL, rCatL, tPart, tNoPart, CwR.tReplC, rAllK, rInSg, rNinSg, sgn_inj, rAddS, rInSt, tChain, tM1, tM0, rSplitN, rJoinN, exists_eq, rIntI, rIntB, rIntS, rStrI, rAbs, rOrd, rMin, rMax, rIxL, rIxX, rSetL, rAppend, rIxS, rSlS, rSlL, tSl, List.map_cons, List.map_nil, List.replicate_succ, List.replicate_zero, List.length_cons, List.length_nil, Nat.reduceSub, Nat.reduceAdd, Nat.zero_add, Nat.sub_self, List.getElem?_cons_zero, List.getElem?_cons_succ, List.set_cons_zero, List.set_cons_succ, List.append_nil, List.nil_append, List.cons_append, Option.some.injEq, not_true_eq_false, reduceCtorEq, exists_eq_left', exists_eq_left, exists_eq', exists_and_left, exists_and_right, V.int.injEq, V.str.injEq, V.bl.injEq, V.ref.injEq, List.cons.injEq, and_true, true_and, and_assoc, decide_eq_true_eq, Bool.not_eq_true', decide_eq_false_iff_not, ite_true, ite_false, if_true, if_false, Bool.not_true, Bool.not_false, Bool.false_eq_true, eq_self_iff_true, reduceIte, ne_eq, Int.reduceEq, not_false_eq_true])
local macro_rules | `(tactic| walk_at "rt") => `(tactic| try walk_at "rd")
local macro_rules | `(tactic| walk_at "st") => `(tactic| (walk_at "rt"; refine r_seq ?_; walk_at "rt"))
local macro_rules | `(tactic| walk_at "hp") => `(tactic| first | assumption | exact upd_same | (rw [upd_ne (by assumption)]; walk_at "hp"))
local macro_rules | `(tactic| walk_at "ex1") => `(tactic| ((with_reducible refine Exists.intro ?w (And.intro ?hx ?_)); (case hx => first | exact sq_of (by walk_at "hp") | exact .inl (sq_of (by walk_at "hp")) | exact rfl | (show _ = some (HO.lst _); walk_at "hp"))))
local macro_rules | `(tactic| walk_at "ex") => `(tactic| repeat (first | walk_at "ex1" | walk_at "rd"))
abbrev s_law : Stmt := topS 29
theorem sc_law : FnScope ["script", "store", "text", "lines", "words", "number", "word"] ["script"] (defScope s_law) := ⟨rfl, rfl, rfl, by decide +kernel, rfl, by decide +kernel, by decide +kernel⟩
theorem cutS_le (z : Str) {n : Int} (h : 0 ≤ n) : ((cutS z none (some n)).length : Int) ≤ n := by
  obtain ⟨m, rfl⟩ : ∃ m : Nat, n = (m : Int) := ⟨n.toNat, by omega⟩
  rw [len_tl]
  show (((((z.cps.toList.drop (HT.sIx z.length 0 none)).take (HT.sIx z.length z.length (some (m : Int)) - HT.sIx z.length 0 none)).length : Nat)) : Int) ≤ m
  rw [HT.sIx_nat, HT.sIx_none, List.length_take]
  omega
theorem numL_head : ∀ m : Nat, (numL m)[0]? = some 48 → m = 0 := by
  intro m
  induction m using Nat.strongRecOn with
  | _ m ih =>
    intro h
    by_cases h10 : m < 10
    · rw [numL_lt h10] at h
      have : 48 + m = 48 := Option.some.inj h
      omega
    · rw [numL_step (by omega)] at h
      have hne := numL_ne (m / 10)
      rw [List.getElem?_append_left (List.length_pos_iff.mpr hne)] at h
      have := ih (m / 10) (by omega) h
      omega
theorem numL_dig (m : Nat) : (numL m).all isDig = true := List.all_eq_true.mpr fun c hc => by
  have := numL_digits m c hc
  unfold isDig
  simpa using this
theorem num_back {n : Int} (h0 : 0 ≤ n) (h1 : n < 10 ^ 20) : numOf (Str.ofString (toString n)) = .int n := by
  have hl := num_len h0 h1
  obtain ⟨m, rfl⟩ : ∃ m : Nat, n = (m : Int) := ⟨n.toNat, by omega⟩
  have et := tl_num m
  have el : (Str.ofString (toString (m : Int))).length = (numL m).length := by rw [len_tl, et]
  have hp : 0 < (numL m).length := List.length_pos_iff.mpr (numL_ne m)
  unfold numOf
  rw [et, if_pos ⟨⟨by omega, hl⟩, numL_dig m, fun ⟨h, h2⟩ => by
    have := numL_head m h
    subst this
    rw [el] at h2
    revert h2
    decide⟩, numL_val]
theorem num_zero (n : Int) (h0 : 0 ≤ n) : numOf (Str.ofString "0" ++ Str.ofString (toString n)) = .non := by
  obtain ⟨m, rfl⟩ : ∃ m : Nat, n = (m : Int) := ⟨n.toNat, by omega⟩
  have et := tl_num m
  have e0 : tl (Str.ofString "0") = [48] := by decide +kernel
  have e1 : tl (Str.ofString "0" ++ Str.ofString (toString (m : Int))) = 48 :: numL m := by
    rw [tl_append, et, e0]
    rfl
  have el : (Str.ofString "0" ++ Str.ofString (toString (m : Int))).length = (numL m).length + 1 := by
    rw [len_tl, e1, List.length_cons]
  have hp : 0 < (numL m).length := List.length_pos_iff.mpr (numL_ne m)
  unfold numOf
  rw [if_neg fun h => h.2.2 ⟨by rw [e1]; rfl, by omega⟩]
def numD (z : Str) : Dat := match numOf z with | .int i => .int i | _ => .non
theorem at_num (z : Str) (H : Hp) : At H (fun _ => True) (numD z) (numOf z) := by
  have h : (∃ i, numOf z = .int i) ∨ numOf z = .non := by
    unfold numOf
    split
    · exact .inl ⟨_, rfl⟩
    · exact .inr rfl
  unfold numD
  rcases h with ⟨i, e⟩ | e <;> (rw [e]; rfl)
theorem dep_num (z : Str) : (numD z).dep ≤ 2 := by
  unfold numD
  split <;> exact Nat.zero_le _
theorem lines_put {H H' : Hp} {A : Addr → Prop} {b p : Addr} {ls : Lines} {ws : List Str} {rs : List Addr} (hl : rs.length = ls.length) (hz : ls.length ≤ 100000) (hw : ws.length ≤ 1000000)
    (hi : ∀ (i : Nat) (r : Addr) (ws : List Str), rs[i]? = some r → ls[i]? = some ws → A r ∧ H r = some (.lst (ws.map V.str)) ∧ ws.length ≤ 1000000)
    (keep : ∀ (i : Nat) (r : Addr) (ws : List Str), rs[i]? = some r → ls[i]? = some ws → H' r = H r) (hb : H' b = some (.lst ((rs ++ [p]).map V.ref))) (hp : H' p = some (.lst (ws.map V.str))) (hA : A p) (hAb : A b) : At H' A (linesD (ls ++ [ws])) (.ref b) := by
  refine mk_lines _ (rs ++ [p]) hAb hb (by rw [List.length_append, List.length_append, hl]; rfl) (by rw [List.length_append]; show ls.length + 1 ≤ _; omega) fun i r ws' h1 h2 => ?_
  by_cases hlt : i < rs.length
  · rw [List.getElem?_append_left hlt] at h1
    rw [List.getElem?_append_left (by omega)] at h2
    obtain ⟨h5, h3, h4⟩ := hi i r ws' h1 h2
    exact ⟨h5, by rw [keep i r ws' h1 h2]; exact h3, h4⟩
  · have := lt_of_get h1
    rw [List.length_append] at this
    have e : i = rs.length := by
      have : ([p] : List Addr).length = 1 := rfl
      omega
    subst e
    rw [List.getElem?_append_right (Nat.le_refl _), Nat.sub_self] at h1
    rw [hl, List.getElem?_append_right (Nat.le_refl _), Nat.sub_self] at h2
    cases h1
    cases h2
    exact ⟨hA, hp, hw⟩
theorem rep_sum (z : Str) (n : Nat) : ((List.replicate n z).map (·.length)).sum = n * z.length := by
  induction n with
  | zero => rw [Nat.zero_mul]; rfl
  | succ n ih =>
    rw [List.replicate_succ, List.map_cons, List.sum_cons, ih, Nat.succ_mul]
    omega
theorem rep_flat (z : Str) (n : Nat) : (List.replicate n [V.str z]).flatten = (List.replicate n z).map V.str := by
  induction n with
  | zero => rfl
  | succ n ih =>
    rw [List.replicate_succ, List.flatten_cons, ih, List.replicate_succ, List.map_cons]
    rfl
theorem tot_rep (ls : Lines) (z : Str) (n : Nat) (hz : z.length ≤ 3) (hn : n ≤ 1990) : totW (ls ++ [List.replicate n z]) ≤ totW ls + 7961 := by
  unfold totW
  rw [List.map_append, List.sum_append, List.map_singleton, rep_sum, List.length_replicate]
  have : n * z.length ≤ 1990 * 3 := Nat.mul_le_mul hn hz
  show _ + (n * z.length + n + 1 + 0) ≤ _
  omega
end K01
namespace K01
open PySem PySem.Spec PyProof.Rows L2 TL
local macro_rules | `(tactic| walk_at "rd") => `(tactic| simp only [start1, wipe, isR, isBool, isInt, isStr, isLst, isTup, tAsg, gName, gSub, tVar, tC, tOp, tUn, tTest, tIfS, tRet, tRetN, tDrop, tB, tAnd, tOr, tNot, tAndV, tOrV, tNotV, tIf, tCB, tCons, tNil, tNext, tCall, tBM, tTup, tLst, rI0, rI, rEq, rNe, scal, forR_eq, forR2_eq, forS_eq, forL_eq, lcL_eq, lcR_eq, lcS_eq, rLenX, rLenS, rMulS, rRepL, rCatL, tPart, tNoPart, CwR.tReplC, rAllK, rInSg, rNinSg, sgn_inj, rAddS, rInSt, tChain, tM1, tM0, rSplitN, rJoinN, exists_eq, rIntI, rIntB, rIntS, rStrI, rAbs, rOrd, rMin, rMax, rIxL, rIxX, rSetL, rAppend, rIxS, rSlS, rSlL, tSl, List.map_cons, List.map_nil, List.replicate_succ, List.replicate_zero, List.length_cons, List.length_nil, Nat.reduceSub, Nat.reduceAdd, Nat.zero_add, Nat.sub_self, List.getElem?_cons_zero, List.getElem?_cons_succ, List.set_cons_zero, List.set_cons_succ, List.append_nil, List.nil_append, List.cons_append, Option.some.injEq, not_true_eq_false, reduceCtorEq, exists_eq_left', exists_eq_left, exists_eq', exists_and_left, exists_and_right, V.int.injEq, V.str.injEq, V.bl.injEq, V.ref.injEq, List.cons.injEq, and_true, true_and, and_assoc, decide_eq_true_eq, Bool.not_eq_true', decide_eq_false_iff_not, ite_true, ite_false, if_true, if_false, Bool.not_true, Bool.not_false, Bool.false_eq_true, eq_self_iff_true, reduceIte, ne_eq, Int.reduceEq, not_false_eq_true])
local macro_rules | `(tactic| walk_at "rt") => `(tactic| try walk_at "rd")
local macro_rules | `(tactic| walk_at "st") => `(tactic| (walk_at "rt"; refine r_seq ?_; walk_at "rt"))
local macro_rules | `(tactic| walk_at "hp") => `(tactic| first | assumption | exact upd_same | (rw [upd_ne (by assumption)]; walk_at "hp"))
local macro_rules | `(tactic| walk_at "ex1") => `(tactic| ((with_reducible refine Exists.intro ?w (And.intro ?hx ?_)); (case hx => first | exact sq_of (by walk_at "hp") | exact .inl (sq_of (by walk_at "hp")) | exact rfl | (show _ = some (HO.lst _); walk_at "hp"))))
local macro_rules | `(tactic| walk_at "ex") => `(tactic| repeat (first | walk_at "ex1" | walk_at "rd"))
def spLaw (K : PySem.W.Frag) : Sp := fun vs H Q _ => ∃ (a : Addr) (ns : List Int), vs = [.ref a] ∧ SqL K H a (ns.map V.int) ∧ ns.length ≤ 63 ∧ ∀ H', Q (.bl true) H'
section
variable {P : Program} {w : World} {K : PySem.W.Frag} {mg : Str → Option Value} {base : Heap}
theorem ok_law {f f_store f_text f_chance f_number f_word f_wordlines f_numberwords f_splitgood f_joingood f_same f_readnumber f_digits : Addr} {fd fd_store fd_text fd_chance fd_number fd_word fd_wordlines fd_numberwords fd_splitgood fd_joingood fd_same fd_readnumber fd_digits : FuncData} (B : Bi mg) (D : Dn K mg "law" s_law ["script"] f fd)
    (D_store : Dn K mg "_law_store" s_store ["script"] f_store fd_store) (D_text : Dn K mg "_law_text" s_text ["store", "high"] f_text fd_text) (D_chance : Dn K mg "_law_chance" s_chance ["store", "many"] f_chance fd_chance) (D_number : Dn K mg "_law_number" s_number ["store", "low", "high"] f_number fd_number)
    (D_word : Dn K mg "_law_word" s_word ["store", "high"] f_word fd_word) (D_wordlines : Dn K mg "_law_word_lines" s_wordlines ["store"] f_wordlines fd_wordlines) (D_numberwords : Dn K mg "_law_number_words" s_numberwords ["store"] f_numberwords fd_numberwords)
    (D_splitgood : Dn K mg "_law_split_good" s_splitgood ["text"] f_splitgood fd_splitgood) (D_joingood : Dn K mg "_law_join_good" s_joingood ["lines"] f_joingood fd_joingood) (D_same : Dn K mg "_law_same" s_same ["one", "two"] f_same fd_same)
    (D_readnumber : Dn K mg "read_number" s_readnumber ["word"] f_readnumber fd_readnumber) (D_digits : Dn K mg "_law_digits" s_digits ["word"] f_digits fd_digits)
    (G_store : FnOk P w K mg base CX0 1 f_store fd_store ["script"] (spStore K)) (G_text : FnOk P w K mg base CX0 4 f_text fd_text ["store", "high"] spText) (G_chance : FnOk P w K mg base CX0 3 f_chance fd_chance ["store", "many"] spChance) (G_number : FnOk P w K mg base CX0 4 f_number fd_number ["store", "low", "high"] spRange)
    (G_word : FnOk P w K mg base CX0 5 f_word fd_word ["store", "high"] spText) (G_wordlines : FnOk P w K mg base CX0 5 f_wordlines fd_wordlines ["store"] spWordLines) (G_numberwords : FnOk P w K mg base CX0 6 f_numberwords fd_numberwords ["store"] spNumWords)
    (G_splitgood : FnOk P w K mg base CX0 7 f_splitgood fd_splitgood ["text"] spGood) (G_joingood : FnOk P w K mg base CX0 7 f_joingood fd_joingood ["lines"] spJGood) (G_same : FnOk P w K mg base CX0 6 f_same fd_same ["one", "two"] (spSame 2))
    (G_readnumber : FnOk P w K mg base CX0 1 f_readnumber fd_readnumber ["word"] spNum) (G_digits : FnOk P w K mg base CX0 1 f_digits fd_digits ["word"] spNum) :
    FnOk P w K mg base CX0 8 f fd ["script"] (spLaw K) := by
  refine D.F.ok sc_law (fun vs H Q E h => ?_) (fun cdv A outer s H vs Q E hr h => ?_)
  · obtain ⟨a, ns, rfl, _⟩ := h
    rfl
  · obtain ⟨a0, ns, rfl, hS, hl, q⟩ := h
    refine ⟨_, (pss_cons (ps_set (i := 1) sc_law.nd rfl (.inl rfl) (pe_call G_store (hr.mono (by omega)) (by rfl) D_store.g D_store.F.kp D_store.b .nil pass0 (pa_cons (pv 0) pa_nil)))
      (pss_cons (ps_set (i := 2) sc_law.nd rfl (.inl rfl) (pe_call G_text (hr.mono (by omega)) (by rfl) D_text.g D_text.F.kp D_text.b .nil pass0 (pa_cons (pv 1) (pa_cons pe_int pa_nil))))
      (C8.pss_cut (ps_if (PW.pt (pw_and (pt_val (pe_call G_chance (hr.mono (by omega)) (by rfl) D_chance.g D_chance.F.kp D_chance.b .nil pass0 (pa_cons (pv 1) (pa_cons pe_int pa_nil)))) (pw_and1 (pt_cmpR op_gt (pe_callB call_lenS (by rfl) B.len PySem.boot_len (pa_cons (pv 2) pa_nil)) pe_int (nomark _))))) (pss_cons (ps_set (i := 2) sc_law.nd rfl (.inl rfl) (pe_slice sl_str (pe_op op_mulS (pv 2) pe_int) po_none (po_some (pe_call G_number (hr.mono (by omega)) (by rfl) D_number.g D_number.F.kp D_number.b .nil pass0 (pa_cons (pv 1) (pa_cons pe_int (pa_cons pe_int pa_nil)))))))
      (pss_one (ps_if (pt_cmpR op_lt (pe_callB call_lenS (by rfl) B.len PySem.boot_len (pa_cons (pv 2) pa_nil)) pe_int (nomark _)) (pss_one (ps_set (i := 2) sc_law.nd rfl (.inl rfl) (pe_op op_addS (pe_op op_mulS (pe_call G_word (hr.mono (by omega)) (by rfl) D_word.g D_word.F.kp D_word.b .nil pass0 (pa_cons (pv 1) (pa_cons pe_int pa_nil))) pe_int) (pv 2)))) pss_nil))) pss_nil)
      (pss_cons (ps_set (i := 3) sc_law.nd rfl (.inl rfl) (pe_call G_wordlines (hr.mono (by omega)) (by rfl) D_wordlines.g D_wordlines.F.kp D_wordlines.b .nil pass0 (pa_cons (pv 1) pa_nil)))
      (C8.pss_cut (ps_if (pt_val (pe_call G_chance (hr.mono (by omega)) (by rfl) D_chance.g D_chance.F.kp D_chance.b .nil pass0 (pa_cons (pv 1) (pa_cons pe_int pa_nil)))) (pss_one (ps_expr (pe_bm PySem.F.plainAttrs_list PySem.F.slot_list_append PySem.F.type_list_append mt_append (pv 3) (pa_cons (pe_op op_repL (pe_lst (pa_cons (pe_call G_word (hr.mono (by omega)) (by rfl) D_word.g D_word.F.kp D_word.b .nil pass0 (pa_cons (pv 1) (pa_cons pe_int pa_nil))) pa_nil)) (pe_call G_number (hr.mono (by omega)) (by rfl) D_number.g D_number.F.kp D_number.b .nil pass0 (pa_cons (pv 1) (pa_cons pe_int (pa_cons pe_int pa_nil))))) pa_nil)))) pss_nil)
      (pss_cons (ps_set (i := 4) sc_law.nd rfl (.inl rfl) (pe_call G_numberwords (hr.mono (by omega)) (by rfl) D_numberwords.g D_numberwords.F.kp D_numberwords.b .nil pass0 (pa_cons (pv 1) pa_nil)))
      (pss_cons (ps_set (i := 5) sc_law.nd rfl (.inl rfl) (pe_call G_number (hr.mono (by omega)) (by rfl) D_number.g D_number.F.kp D_number.b .nil pass0 (pa_cons (pv 1) (pa_cons pe_int (pa_cons (pe_op op_sub (pe_op op_pow pe_int pe_int) pe_int) pa_nil)))))
      (pss_cons (ps_if (PW.pt (pw_or (pt_not (pt_val (pe_call G_splitgood (hr.mono (by omega)) (by rfl) D_splitgood.g D_splitgood.F.kp D_splitgood.b .nil pass0 (pa_cons (pv 2) pa_nil)))) (pw_or (pt_not (pt_val (pe_call G_splitgood (hr.mono (by omega)) (by rfl) D_splitgood.g D_splitgood.F.kp D_splitgood.b .nil pass0 (pa_cons pe_str pa_nil)))) (pw_or1 (pt_not (pt_val (pe_call G_splitgood (hr.mono (by omega)) (by rfl) D_splitgood.g D_splitgood.F.kp D_splitgood.b .nil pass0 (pa_cons (pv 2) pa_nil)))))))) (pss_one (ps_ret pe_bl)) pss_nil)
      (pss_cons (ps_if (PW.pt (pw_or (pt_not (pt_val (pe_call G_joingood (hr.mono (by omega)) (by rfl) D_joingood.g D_joingood.F.kp D_joingood.b .nil pass0 (pa_cons (pv 3) pa_nil)))) (pw_or (pt_not (pt_val (pe_call G_joingood (hr.mono (by omega)) (by rfl) D_joingood.g D_joingood.F.kp D_joingood.b .nil pass0 (pa_cons (pe_lst pa_nil) pa_nil)))) (pw_or1 (pt_not (pt_val (pe_call G_joingood (hr.mono (by omega)) (by rfl) D_joingood.g D_joingood.F.kp D_joingood.b .nil pass0 (pa_cons (pe_lst (pa_cons (pe_lst pa_nil) pa_nil)) pa_nil)))))))) (pss_one (ps_ret pe_bl)) pss_nil)
      (pss_cons (ps_for PassesOwn.never rfl (pi_listK (K := K) (pv 4)) (pg_name (i := 6) sc_law.nd rfl (.inl rfl)) (pss_one (ps_if (pt_not (pt_val (pe_call G_same (hr.mono (by omega)) (by rfl) D_same.g D_same.F.kp D_same.b .nil pass0 (pa_cons (pe_call G_readnumber (hr.mono (by omega)) (by rfl) D_readnumber.g D_readnumber.F.kp D_readnumber.b .nil pass0 (pa_cons (pv 6) pa_nil)) (pa_cons (pe_call G_digits (hr.mono (by omega)) (by rfl) D_digits.g D_digits.F.kp D_digits.b .nil pass0 (pa_cons (pv 6) pa_nil)) pa_nil))))) (pss_one (ps_ret pe_bl)) pss_nil)))
      (pss_one (ps_ret (pe_and (pe_call G_same (hr.mono (by omega)) (by rfl) D_same.g D_same.F.kp D_same.b .nil pass0 (pa_cons (pe_call G_readnumber (hr.mono (by omega)) (by rfl) D_readnumber.g D_readnumber.F.kp D_readnumber.b .nil pass0 (pa_cons (pe_callTy call_strI (by rfl) B.str_ (by decide +kernel) (pa_cons (pv 5) pa_nil)) pa_nil)) (pa_cons (pv 5) pa_nil))) (pe_one (pe_call G_same (hr.mono (by omega)) (by rfl) D_same.g D_same.F.kp D_same.b .nil pass0 (pa_cons (pe_call G_readnumber (hr.mono (by omega)) (by rfl) D_readnumber.g D_readnumber.F.kp D_readnumber.b .nil pass0 (pa_cons (pe_op op_addS pe_str (pe_callTy call_strI (by rfl) B.str_ (by decide +kernel) (pa_cons (pv 5) pa_nil))) pa_nil)) (pa_cons pe_non pa_nil))))))))))))))))), ?_⟩
    walk_at "st"
    refine ⟨a0, ns, rfl, hS, hl, fun a c H1 s1 na S1 => ?_⟩
    walk_at "st"
    refine ⟨a, c, 60, rfl, S1, by decide, by decide, fun v H2 S2 b2 ⟨z, e, hz⟩ => ?_⟩
    subst e
    walk_at "rt"
    refine r_cut (fun σ' H' => (∃ z : Str, z.length ≤ 50000 ∧ σ' = [some (.ref a0), some (.ref a), some (.str z), none, none, none, none]) ∧ StoreAt H' a c) (fun N k => ?_) ?_
    · walk_at "rt"
      refine ⟨a, c, 12, rfl, S2, by decide, fun v H3 S3 b3 ⟨b, e⟩ => ?_⟩
      subst e
      walk_at "rt"
      have no : N [some (.ref a0), some (.ref a), some (.str z), none, none, none, none] H3 := k _ _ ⟨⟨z, by omega, rfl⟩, S3⟩
      refine ite2 (fun _ => ⟨line_of (by omega), ite2 (fun hpos => ?_) (fun _ => no)⟩) (fun _ => no)
      walk_at "st"
      have hm := mul_le (z := z) (n := 2000) (L := 60) (N := 2000) (by omega) (by omega)
      refine ⟨60, by omega, 2000, by decide, by decide, by decide, by decide, ?_⟩
      refine ⟨a, c, 1, 2000, rfl, S3, by decide, by decide, fun v H4 S4 b4 ⟨n, e, n0, n1⟩ => ?_⟩
      subst e
      have hc := cutS_le (Txt.mul z 2000) (n := n) (by omega)
      walk_at "rt"
      generalize cutS (Txt.mul z 2000) none (some n) = z2 at hc
      refine ⟨line_of (by omega), line_of (by omega), ite2 (fun hlt => ?_) (fun _ => k _ _ ⟨⟨z2, by omega, rfl⟩, S4⟩)⟩
      refine ⟨a, c, 6, rfl, S4, by decide, by decide, fun v H5 S5 b5 ⟨z3, e, hz3⟩ => ?_⟩
      subst e
      have hm3 := mul_le (z := z3) (n := 3000) (L := 6) (N := 3000) (by omega) (by omega)
      walk_at "rt"
      exact ⟨6, by omega, 3000, by decide, by decide, by decide, by decide, line_of (by omega), k _ _ ⟨⟨_, by rw [str_len]; omega, rfl⟩, S5⟩⟩
    rintro σ' H3 ⟨⟨z1, hz1, rfl⟩, S3⟩
    walk_at "st"
    refine ⟨a, c, rfl, S3, fun v H4 S4 b4 ls aL htot => ?_⟩
    walk_at "rt"
    obtain ⟨l, rs, rfl, nl3, hlx, hrl, hll, hrs⟩ := at_lines aL
    have hlen := totW_len ls
    have la := S3.ne1 nl3
    refine r_cut (fun σ' H' => σ' = [some (.ref a0), some (.ref a), some (.str z1), some (.ref l), none, none, none] ∧ StoreAt H' a c ∧ ∃ ls : Lines, At H' (fun q => H3 q = none) (linesD ls) (.ref l) ∧ totW ls ≤ 9000) (fun N k => ?_) ?_
    · walk_at "rt"
      refine ⟨a, c, 12, rfl, S4, by decide, fun v H5 S5 b5 ⟨b, e⟩ => ?_⟩
      subst e
      have keep : ∀ {H5 H6 : Hp}, But a H5 H6 → At H5 (fun q => H3 q = none) (linesD ls) (.ref l) → At H6 (fun q => H3 q = none) (linesD ls) (.ref l) := fun b h => At.mono (fun _ h => h) (fun q o hq e => b q o (S3.ne1 hq) e) _ _ h
      have aL5 := keep b5 aL
      walk_at "rt"
      refine ite2 (fun _ => ?_) (fun _ => k _ _ ⟨rfl, S5, ls, aL5, by omega⟩)
      have hl5 := b5 l _ la hlx
      refine ⟨.inl ⟨rfl, _, sq_of hl5⟩, ?_⟩
      refine ⟨a, c, 3, rfl, S5, by decide, by decide, fun v H6 S6 b6 ⟨z3, e, hz3⟩ => ?_⟩
      subst e
      have aL6 := keep b6 aL5
      walk_at "rt"
      refine ⟨by decide, fun p np => ?_⟩
      refine ⟨a, c, 0, 1990, rfl, S6.new np, by decide, by decide, fun v H7 S7 b7 ⟨n, e, n0, n1⟩ => ?_⟩
      subst e
      have aL7 := keep (But.pushNew np b7) aL6
      have pa := S6.ne1 np
      have hp7 := b7 p _ pa upd_same
      walk_at "rt"
      refine ⟨_, hp7, by omega, by omega, line_of (by show 1 * n.toNat ≤ _; omega), fun p3 np3 => ?_⟩
      obtain ⟨l', rs7, e, _, hl7, hrl7, hll7, hrs7⟩ := at_lines aL7
      cases e
      have nl : l ≠ p3 := ne_of_none hl7 np3
      refine ⟨_, by rw [upd_ne nl]; exact hl7, size_ok (by rw [List.length_map]; omega), ?_⟩
      have n3 : H3 p3 = none := by
        cases e : H3 p3 with
        | none => rfl
        | some o =>
          have n1 := S7.ne1 np3
          have := (But.pushNew np b7) p3 o n1 (b6 p3 o n1 (b5 p3 o n1 (b4 p3 o n1 e)))
          rw [np3] at this
          cases this
      refine k _ _ ⟨rfl, (S7.new np3).put la (S3.ne2 nl3), ls ++ [List.replicate n.toNat z3], ?_, Nat.le_trans (tot_rep ls z3 n.toNat (by omega) (by omega)) (by omega)⟩
      refine lines_put (p := p3) hrl7 (by omega) (by rw [List.length_replicate]; omega) hrs7 (fun i r ws h1 h2 => ?_) ?_ ?_ n3 nl3
      · obtain ⟨_, h3, _⟩ := hrs7 i r ws h1 h2
        rw [h3, upd_ne (line_ne hl7 h1 h3), upd_ne (ne_of_none h3 np3)]
        exact h3
      · rw [upd_same, List.map_append]
        rfl
      · rw [upd_ne nl.symm, upd_same, ← rep_flat]
    rintro σ' H5 ⟨rfl, S5, ls5, aL5, htot5⟩
    walk_at "st"
    refine ⟨a, c, rfl, S5, fun pw ws H6 S6 b6 npw hpw hwl hw20 => ?_⟩
    obtain ⟨_, rs5, e, _, hl5, _⟩ := at_lines aL5
    cases e
    have nlw : pw ≠ l := (ne_of_none hl5 npw).symm
    have npa : pw ≠ a := S5.ne1 npw
    have aL6 : At H6 (fun q => H3 q = none) (linesD ls5) (.ref l) := At.mono (fun _ h => h) (fun q o hq e => b6 q o (S3.ne1 hq) e) _ _ aL5
    walk_at "st"
    refine ⟨⟨by decide, by decide, by decide⟩, a, c, 0, _, rfl, S6, by decide, by decide, fun v H7 S7 b7 ⟨n, e, n0, n1⟩ => ?_⟩
    subst e
    have n2 : n < 10 ^ 20 := by
      have e : (10 : Int) ^ (Int.toNat 20) - 1 = 10 ^ 20 - 1 := rfl
      omega
    have hpw7 := b7 pw _ npa hpw
    have aL7 : At H7 (fun q => H3 q = none) (linesD ls5) (.ref l) := At.mono (fun _ h => h) (fun q o hq e => b7 q o (S3.ne1 hq) e) _ _ aL6
    walk_at "st"
    refine ⟨z1, rfl, by omega, fun H8 s8 => ?_⟩
    walk_at "rt"
    refine ⟨Str.ofString "", rfl, by decide +kernel, fun H9 s9 => ?_⟩
    walk_at "rt"
    refine ⟨z1, rfl, by omega, fun H10 s10 => ?_⟩
    have s710 := (s8.trans s9).trans s10
    have aL10 := aL7.any s710
    have hpw10 := s710 _ _ hpw7
    walk_at "st"
    refine ⟨l, _, ls5, rfl, aL10, by omega, fun H11 b11 => ?_⟩
    have hpw11 := b11 pw _ nlw hpw10
    walk_at "rt"
    refine ⟨by decide, fun p np => ?_⟩
    have nwp : pw ≠ p := ne_of_none hpw11 np
    refine ⟨p, fun _ => True, [], rfl, ⟨p, [], rfl, trivial, upd_same, by decide, rfl⟩, by decide, fun H12 b12 => ?_⟩
    have hpw12 : H12 pw = some (.lst (ws.map V.str)) := b12 pw _ nwp (by rw [upd_ne nwp]; exact hpw11)
    walk_at "rt"
    refine ⟨by decide, fun p1 np1 => ?_⟩
    refine ⟨by decide, fun p2 np2 => ?_⟩
    have h1 : (L2.upd H12 p1 (.lst [])) p1 = some (.lst []) := upd_same
    have n12 : p1 ≠ p2 := ne_of_none h1 np2
    have nw1 : pw ≠ p1 := ne_of_none hpw12 np1
    have hw1 : (L2.upd H12 p1 (.lst [])) pw = some (.lst (ws.map V.str)) := by rw [upd_ne nw1]; exact hpw12
    have nw2 : pw ≠ p2 := ne_of_none hw1 np2
    refine ⟨p2, fun _ => True, [[]], rfl, ⟨p2, [.ref p1], rfl, trivial, upd_same, by show 1 ≤ 1000000; decide, _, _, rfl, ⟨p1, [], rfl, trivial, by rw [upd_ne n12]; exact h1, by decide, rfl⟩, rfl⟩, by decide, fun H13 b13 => ?_⟩
    have hpw13 : H13 pw = some (.lst (ws.map V.str)) := b13 pw _ nw2 (by rw [upd_ne nw2]; exact hw1)
    walk_at "st"
    refine ⟨⟨_, sq_of hpw13⟩, ?_⟩
    refine r_list (K := K) (ws.map V.str) (fun i σ H' => (∃ x : Option V, σ = [some (.ref a0), some (.ref a), some (.str z1), some (.ref l), some (.ref pw), some (.int n), x]) ∧ Same H13 H') ⟨⟨_, rfl⟩, Same.refl _⟩ (fun i σ H' _ h => sq_of (h.2 _ _ hpw13)) ?_ ?_
    · rintro i v σ H' hv ⟨⟨x, rfl⟩, sm⟩ N k
      obtain ⟨z, hz, rfl⟩ := map_get hv
      have h20 := hw20 z (List.mem_of_getElem? hz)
      walk_at "rt"
      refine ⟨z, rfl, by omega, fun H14 s14 => ?_⟩
      refine ⟨z, rfl, by omega, fun H15 s15 => ?_⟩
      refine ⟨numOf z, numOf z, fun _ => True, fun _ => True, numD z, numD z, rfl, at_num z _, at_num z _, dep_num z, ?_⟩
      rw [same_refl]
      walk_at "rt"
      exact k _ _ ⟨⟨_, rfl⟩, (sm.trans s14).trans s15⟩
    · rintro σ H' ⟨⟨x, rfl⟩, sm⟩
      have hnl := num_len n0 n2
      walk_at "rt"
      refine ⟨log_small n0 n2, Str.ofString (toString n), rfl, by omega, fun H14 s14 => ?_⟩
      rw [num_back n0 n2]
      walk_at "rt"
      refine ⟨.int n, .int n, fun _ => True, fun _ => True, .int n, .int n, rfl, rfl, rfl, Nat.zero_le _, ?_⟩
      rw [same_refl]
      walk_at "rt"
      have e0 : (Str.ofString "0").length = 1 := by decide +kernel
      refine ⟨log_small n0 n2, by rw [e0]; exact line_of (by omega), ?_⟩
      refine ⟨Str.ofString "0" ++ Str.ofString (toString n), rfl, by rw [str_len]; omega, fun H15 s15 => ?_⟩
      rw [num_zero n n0]
      walk_at "rt"
      refine ⟨.non, .non, fun _ => True, fun _ => True, .non, .non, rfl, rfl, rfl, Nat.zero_le _, ?_⟩
      exact q _
end
end K01
namespace K01
open PySem PySem.Spec PyProof.Rows L2 TL
/-! ### what the top has written; the end -/
set_option maxHeartbeats 8000000 in
theorem all_mk {l : PySem.W.OpenLaw} {w : World} {K : PySem.W.Frag} {h : Heap} {mg : Str → Option Value} {fa : Addr} (X : K.In h) (G : h.Ns mainGlobals mg) (hfa : mg "law" = some (.ref fa))
    {f_splitwords f_joinwords f_readnumber f_store f_mixed f_take f_pick f_chance f_number f_size f_same f_samerows f_copy f_signsoftexts f_text f_word f_wordlines f_numberword f_put f_plain f_digits f_splitgood f_joingood f_numberwords f_law : Addr} {od_splitwords an_splitwords od_joinwords an_joinwords od_readnumber an_readnumber od_store an_store od_mixed an_mixed od_take an_take od_pick an_pick od_chance an_chance od_number an_number od_size an_size od_same an_same od_samerows an_samerows od_copy an_copy od_signsoftexts an_signsoftexts od_text an_text od_word an_word od_wordlines an_wordlines od_numberword an_numberword od_put an_put od_plain an_plain od_digits an_digits od_splitgood an_splitgood od_joingood an_joingood od_numberwords an_numberwords od_law an_law : Option Addr} {sl_splitwords sl_joinwords sl_readnumber sl_store sl_mixed sl_take sl_pick sl_chance sl_number sl_size sl_same sl_samerows sl_copy sl_signsoftexts sl_text sl_word sl_wordlines sl_numberword sl_put sl_plain sl_digits sl_splitgood sl_joingood sl_numberwords sl_law : Array (Option Value)}
    {oc_splitwords kV_splitwords dc_splitwords pm_splitwords cd_splitwords ct_splitwords oc_joinwords kV_joinwords dc_joinwords pm_joinwords cd_joinwords ct_joinwords oc_readnumber kV_readnumber dc_readnumber pm_readnumber cd_readnumber ct_readnumber oc_store kV_store dc_store pm_store cd_store ct_store oc_mixed kV_mixed dc_mixed pm_mixed cd_mixed ct_mixed oc_take kV_take dc_take pm_take cd_take ct_take oc_pick kV_pick dc_pick pm_pick cd_pick ct_pick oc_chance kV_chance dc_chance pm_chance cd_chance ct_chance oc_number kV_number dc_number pm_number cd_number ct_number oc_size kV_size dc_size pm_size cd_size ct_size oc_same kV_same dc_same pm_same cd_same ct_same oc_samerows kV_samerows dc_samerows pm_samerows cd_samerows ct_samerows oc_copy kV_copy dc_copy pm_copy cd_copy ct_copy oc_signsoftexts kV_signsoftexts dc_signsoftexts pm_signsoftexts cd_signsoftexts ct_signsoftexts oc_text kV_text dc_text pm_text cd_text ct_text oc_word kV_word dc_word pm_word cd_word ct_word oc_wordlines kV_wordlines dc_wordlines pm_wordlines cd_wordlines ct_wordlines oc_numberword kV_numberword dc_numberword pm_numberword cd_numberword ct_numberword oc_put kV_put dc_put pm_put cd_put ct_put oc_plain kV_plain dc_plain pm_plain cd_plain ct_plain oc_digits kV_digits dc_digits pm_digits cd_digits ct_digits oc_splitgood kV_splitgood dc_splitgood pm_splitgood cd_splitgood ct_splitgood oc_joingood kV_joingood dc_joingood pm_joingood cd_joingood ct_joingood oc_numberwords kV_numberwords dc_numberwords pm_numberwords cd_numberwords ct_numberwords oc_law kV_law dc_law pm_law cd_law ct_law : Value} {t1 t2 : Tok}
    (a_splitwords : PySem.W.nsIn K mainGlobals "split_words" = some (some (.ref f_splitwords))) (l_splitwords : K.lookup f_splitwords = some ⟨oc_splitwords, od_splitwords, .func (PySem.W.fnOf "split_words" "split_words" (defArgs s_splitwords) (defBody s_splitwords) (defScope s_splitwords) .none kV_splitwords dc_splitwords pm_splitwords an_splitwords cd_splitwords ct_splitwords), sl_splitwords⟩) (c_splitwords : PySem.W.codeIn K cd_splitwords "split_words" = true) (k_splitwords : PySem.W.keepIn K (.ref f_splitwords) = true)
    (a_joinwords : PySem.W.nsIn K mainGlobals "join_words" = some (some (.ref f_joinwords))) (l_joinwords : K.lookup f_joinwords = some ⟨oc_joinwords, od_joinwords, .func (PySem.W.fnOf "join_words" "join_words" (defArgs s_joinwords) (defBody s_joinwords) (defScope s_joinwords) .none kV_joinwords dc_joinwords pm_joinwords an_joinwords cd_joinwords ct_joinwords), sl_joinwords⟩) (c_joinwords : PySem.W.codeIn K cd_joinwords "join_words" = true) (k_joinwords : PySem.W.keepIn K (.ref f_joinwords) = true)
    (a_readnumber : PySem.W.nsIn K mainGlobals "read_number" = some (some (.ref f_readnumber))) (l_readnumber : K.lookup f_readnumber = some ⟨oc_readnumber, od_readnumber, .func (PySem.W.fnOf "read_number" "read_number" (defArgs s_readnumber) (defBody s_readnumber) (defScope s_readnumber) .none kV_readnumber dc_readnumber pm_readnumber an_readnumber cd_readnumber ct_readnumber), sl_readnumber⟩) (c_readnumber : PySem.W.codeIn K cd_readnumber "read_number" = true) (k_readnumber : PySem.W.keepIn K (.ref f_readnumber) = true)
    (a_store : PySem.W.nsIn K mainGlobals "_law_store" = some (some (.ref f_store))) (l_store : K.lookup f_store = some ⟨oc_store, od_store, .func (PySem.W.fnOf "_law_store" "_law_store" (defArgs s_store) (defBody s_store) (defScope s_store) .none kV_store dc_store pm_store an_store cd_store ct_store), sl_store⟩) (c_store : PySem.W.codeIn K cd_store "_law_store" = true) (k_store : PySem.W.keepIn K (.ref f_store) = true)
    (a_mixed : PySem.W.nsIn K mainGlobals "_law_mixed" = some (some (.ref f_mixed))) (l_mixed : K.lookup f_mixed = some ⟨oc_mixed, od_mixed, .func (PySem.W.fnOf "_law_mixed" "_law_mixed" (defArgs s_mixed) (defBody s_mixed) (defScope s_mixed) .none kV_mixed dc_mixed pm_mixed an_mixed cd_mixed ct_mixed), sl_mixed⟩) (c_mixed : PySem.W.codeIn K cd_mixed "_law_mixed" = true) (k_mixed : PySem.W.keepIn K (.ref f_mixed) = true)
    (a_take : PySem.W.nsIn K mainGlobals "_law_take" = some (some (.ref f_take))) (l_take : K.lookup f_take = some ⟨oc_take, od_take, .func (PySem.W.fnOf "_law_take" "_law_take" (defArgs s_take) (defBody s_take) (defScope s_take) .none kV_take dc_take pm_take an_take cd_take ct_take), sl_take⟩) (c_take : PySem.W.codeIn K cd_take "_law_take" = true) (k_take : PySem.W.keepIn K (.ref f_take) = true)
    (a_pick : PySem.W.nsIn K mainGlobals "_law_pick" = some (some (.ref f_pick))) (l_pick : K.lookup f_pick = some ⟨oc_pick, od_pick, .func (PySem.W.fnOf "_law_pick" "_law_pick" (defArgs s_pick) (defBody s_pick) (defScope s_pick) .none kV_pick dc_pick pm_pick an_pick cd_pick ct_pick), sl_pick⟩) (c_pick : PySem.W.codeIn K cd_pick "_law_pick" = true) (k_pick : PySem.W.keepIn K (.ref f_pick) = true)
    (a_chance : PySem.W.nsIn K mainGlobals "_law_chance" = some (some (.ref f_chance))) (l_chance : K.lookup f_chance = some ⟨oc_chance, od_chance, .func (PySem.W.fnOf "_law_chance" "_law_chance" (defArgs s_chance) (defBody s_chance) (defScope s_chance) .none kV_chance dc_chance pm_chance an_chance cd_chance ct_chance), sl_chance⟩) (c_chance : PySem.W.codeIn K cd_chance "_law_chance" = true) (k_chance : PySem.W.keepIn K (.ref f_chance) = true)
    (a_number : PySem.W.nsIn K mainGlobals "_law_number" = some (some (.ref f_number))) (l_number : K.lookup f_number = some ⟨oc_number, od_number, .func (PySem.W.fnOf "_law_number" "_law_number" (defArgs s_number) (defBody s_number) (defScope s_number) .none kV_number dc_number pm_number an_number cd_number ct_number), sl_number⟩) (c_number : PySem.W.codeIn K cd_number "_law_number" = true) (k_number : PySem.W.keepIn K (.ref f_number) = true)
    (a_size : PySem.W.nsIn K mainGlobals "_law_size" = some (some (.ref f_size))) (l_size : K.lookup f_size = some ⟨oc_size, od_size, .func (PySem.W.fnOf "_law_size" "_law_size" (defArgs s_size) (defBody s_size) (defScope s_size) .none kV_size dc_size pm_size an_size cd_size ct_size), sl_size⟩) (c_size : PySem.W.codeIn K cd_size "_law_size" = true) (k_size : PySem.W.keepIn K (.ref f_size) = true)
    (a_same : PySem.W.nsIn K mainGlobals "_law_same" = some (some (.ref f_same))) (l_same : K.lookup f_same = some ⟨oc_same, od_same, .func (PySem.W.fnOf "_law_same" "_law_same" (defArgs s_same) (defBody s_same) (defScope s_same) .none kV_same dc_same pm_same an_same cd_same ct_same), sl_same⟩) (c_same : PySem.W.codeIn K cd_same "_law_same" = true) (k_same : PySem.W.keepIn K (.ref f_same) = true)
    (a_samerows : PySem.W.nsIn K mainGlobals "_law_same_rows" = some (some (.ref f_samerows))) (l_samerows : K.lookup f_samerows = some ⟨oc_samerows, od_samerows, .func (PySem.W.fnOf "_law_same_rows" "_law_same_rows" (defArgs s_samerows) (defBody s_samerows) (defScope s_samerows) .none kV_samerows dc_samerows pm_samerows an_samerows cd_samerows ct_samerows), sl_samerows⟩) (c_samerows : PySem.W.codeIn K cd_samerows "_law_same_rows" = true) (k_samerows : PySem.W.keepIn K (.ref f_samerows) = true)
    (a_copy : PySem.W.nsIn K mainGlobals "_law_copy" = some (some (.ref f_copy))) (l_copy : K.lookup f_copy = some ⟨oc_copy, od_copy, .func (PySem.W.fnOf "_law_copy" "_law_copy" (defArgs s_copy) (defBody s_copy) (defScope s_copy) .none kV_copy dc_copy pm_copy an_copy cd_copy ct_copy), sl_copy⟩) (c_copy : PySem.W.codeIn K cd_copy "_law_copy" = true) (k_copy : PySem.W.keepIn K (.ref f_copy) = true)
    (a_signsoftexts : PySem.W.nsIn K mainGlobals "_law_signs_of_texts" = some (some (.ref f_signsoftexts))) (l_signsoftexts : K.lookup f_signsoftexts = some ⟨oc_signsoftexts, od_signsoftexts, .func (PySem.W.fnOf "_law_signs_of_texts" "_law_signs_of_texts" (defArgs s_signsoftexts) (defBody s_signsoftexts) (defScope s_signsoftexts) .none kV_signsoftexts dc_signsoftexts pm_signsoftexts an_signsoftexts cd_signsoftexts ct_signsoftexts), sl_signsoftexts⟩) (c_signsoftexts : PySem.W.codeIn K cd_signsoftexts "_law_signs_of_texts" = true) (k_signsoftexts : PySem.W.keepIn K (.ref f_signsoftexts) = true)
    (a_text : PySem.W.nsIn K mainGlobals "_law_text" = some (some (.ref f_text))) (l_text : K.lookup f_text = some ⟨oc_text, od_text, .func (PySem.W.fnOf "_law_text" "_law_text" (defArgs s_text) (defBody s_text) (defScope s_text) .none kV_text dc_text pm_text an_text cd_text ct_text), sl_text⟩) (c_text : PySem.W.codeIn K cd_text "_law_text" = true) (k_text : PySem.W.keepIn K (.ref f_text) = true)
    (a_word : PySem.W.nsIn K mainGlobals "_law_word" = some (some (.ref f_word))) (l_word : K.lookup f_word = some ⟨oc_word, od_word, .func (PySem.W.fnOf "_law_word" "_law_word" (defArgs s_word) (defBody s_word) (defScope s_word) .none kV_word dc_word pm_word an_word cd_word ct_word), sl_word⟩) (c_word : PySem.W.codeIn K cd_word "_law_word" = true) (k_word : PySem.W.keepIn K (.ref f_word) = true)
    (a_wordlines : PySem.W.nsIn K mainGlobals "_law_word_lines" = some (some (.ref f_wordlines))) (l_wordlines : K.lookup f_wordlines = some ⟨oc_wordlines, od_wordlines, .func (PySem.W.fnOf "_law_word_lines" "_law_word_lines" (defArgs s_wordlines) (defBody s_wordlines) (defScope s_wordlines) .none kV_wordlines dc_wordlines pm_wordlines an_wordlines cd_wordlines ct_wordlines), sl_wordlines⟩) (c_wordlines : PySem.W.codeIn K cd_wordlines "_law_word_lines" = true) (k_wordlines : PySem.W.keepIn K (.ref f_wordlines) = true)
    (a_numberword : PySem.W.nsIn K mainGlobals "_law_number_word" = some (some (.ref f_numberword))) (l_numberword : K.lookup f_numberword = some ⟨oc_numberword, od_numberword, .func (PySem.W.fnOf "_law_number_word" "_law_number_word" (defArgs s_numberword) (defBody s_numberword) (defScope s_numberword) .none kV_numberword dc_numberword pm_numberword an_numberword cd_numberword ct_numberword), sl_numberword⟩) (c_numberword : PySem.W.codeIn K cd_numberword "_law_number_word" = true) (k_numberword : PySem.W.keepIn K (.ref f_numberword) = true)
    (a_put : PySem.W.nsIn K mainGlobals "_law_put" = some (some (.ref f_put))) (l_put : K.lookup f_put = some ⟨oc_put, od_put, .func (PySem.W.fnOf "_law_put" "_law_put" (defArgs s_put) (defBody s_put) (defScope s_put) .none kV_put dc_put pm_put an_put cd_put ct_put), sl_put⟩) (c_put : PySem.W.codeIn K cd_put "_law_put" = true) (k_put : PySem.W.keepIn K (.ref f_put) = true)
    (a_plain : PySem.W.nsIn K mainGlobals "_law_plain" = some (some (.ref f_plain))) (l_plain : K.lookup f_plain = some ⟨oc_plain, od_plain, .func (PySem.W.fnOf "_law_plain" "_law_plain" (defArgs s_plain) (defBody s_plain) (defScope s_plain) .none kV_plain dc_plain pm_plain an_plain cd_plain ct_plain), sl_plain⟩) (c_plain : PySem.W.codeIn K cd_plain "_law_plain" = true) (k_plain : PySem.W.keepIn K (.ref f_plain) = true)
    (a_digits : PySem.W.nsIn K mainGlobals "_law_digits" = some (some (.ref f_digits))) (l_digits : K.lookup f_digits = some ⟨oc_digits, od_digits, .func (PySem.W.fnOf "_law_digits" "_law_digits" (defArgs s_digits) (defBody s_digits) (defScope s_digits) .none kV_digits dc_digits pm_digits an_digits cd_digits ct_digits), sl_digits⟩) (c_digits : PySem.W.codeIn K cd_digits "_law_digits" = true) (k_digits : PySem.W.keepIn K (.ref f_digits) = true)
    (a_splitgood : PySem.W.nsIn K mainGlobals "_law_split_good" = some (some (.ref f_splitgood))) (l_splitgood : K.lookup f_splitgood = some ⟨oc_splitgood, od_splitgood, .func (PySem.W.fnOf "_law_split_good" "_law_split_good" (defArgs s_splitgood) (defBody s_splitgood) (defScope s_splitgood) .none kV_splitgood dc_splitgood pm_splitgood an_splitgood cd_splitgood ct_splitgood), sl_splitgood⟩) (c_splitgood : PySem.W.codeIn K cd_splitgood "_law_split_good" = true) (k_splitgood : PySem.W.keepIn K (.ref f_splitgood) = true)
    (a_joingood : PySem.W.nsIn K mainGlobals "_law_join_good" = some (some (.ref f_joingood))) (l_joingood : K.lookup f_joingood = some ⟨oc_joingood, od_joingood, .func (PySem.W.fnOf "_law_join_good" "_law_join_good" (defArgs s_joingood) (defBody s_joingood) (defScope s_joingood) .none kV_joingood dc_joingood pm_joingood an_joingood cd_joingood ct_joingood), sl_joingood⟩) (c_joingood : PySem.W.codeIn K cd_joingood "_law_join_good" = true) (k_joingood : PySem.W.keepIn K (.ref f_joingood) = true)
    (a_numberwords : PySem.W.nsIn K mainGlobals "_law_number_words" = some (some (.ref f_numberwords))) (l_numberwords : K.lookup f_numberwords = some ⟨oc_numberwords, od_numberwords, .func (PySem.W.fnOf "_law_number_words" "_law_number_words" (defArgs s_numberwords) (defBody s_numberwords) (defScope s_numberwords) .none kV_numberwords dc_numberwords pm_numberwords an_numberwords cd_numberwords ct_numberwords), sl_numberwords⟩) (c_numberwords : PySem.W.codeIn K cd_numberwords "_law_number_words" = true) (k_numberwords : PySem.W.keepIn K (.ref f_numberwords) = true)
    (a_law : PySem.W.nsIn K mainGlobals "law" = some (some (.ref f_law))) (l_law : K.lookup f_law = some ⟨oc_law, od_law, .func (PySem.W.fnOf "law" "law" (defArgs s_law) (defBody s_law) (defScope s_law) .none kV_law dc_law pm_law an_law cd_law ct_law), sl_law⟩) (c_law : PySem.W.codeIn K cd_law "law" = true) (k_law : PySem.W.keepIn K (.ref f_law) = true)
    (g1 : PySem.W.nsIn K mainGlobals "MOST_DIGITS" = some (some (.int 20 t1))) (g2 : PySem.W.nsIn K mainGlobals "DIGITS" = some (some (.str (Str.ofString "0123456789") t2)))
    (z_len : PySem.W.nsIn K mainGlobals "len" = some none) (z_range : PySem.W.nsIn K mainGlobals "range" = some none) (z_abs : PySem.W.nsIn K mainGlobals "abs" = some none) (z_ord : PySem.W.nsIn K mainGlobals "ord" = some none) (z_min : PySem.W.nsIn K mainGlobals "min" = some none) (z_max : PySem.W.nsIn K mainGlobals "max" = some none) (z_all : PySem.W.nsIn K mainGlobals "all" = some none) (z_isinstance : PySem.W.nsIn K mainGlobals "isinstance" = some none) (z_int_ : PySem.W.nsIn K mainGlobals "int" = some none) (z_str_ : PySem.W.nsIn K mainGlobals "str" = some none) (z_bool_ : PySem.W.nsIn K mainGlobals "bool" = some none) (z_list_ : PySem.W.nsIn K mainGlobals "list" = some none) (z_tuple_ : PySem.W.nsIn K mainGlobals "tuple" = some none) (z_dict_ : PySem.W.nsIn K mainGlobals "dict" = some none) :
    ∃ fd : FuncData, (∀ (s : Shared) (v : Value), BindsTo s fd ⟨[v], []⟩ [("script", v)]) ∧ ∀ base : Heap, K.In base → base.Ns mainGlobals mg → FnOk l.prog w K mg base CX0 8 fa fd ["script"] (spLaw K) := by
  have e := hfa.symm.trans (PySem.W.mg_of X G a_law)
  cases e
  have B : Bi mg := ⟨PySem.W.mg_none_of X G z_len, PySem.W.mg_none_of X G z_range, PySem.W.mg_none_of X G z_abs, PySem.W.mg_none_of X G z_ord, PySem.W.mg_none_of X G z_min, PySem.W.mg_none_of X G z_max, PySem.W.mg_none_of X G z_all, PySem.W.mg_none_of X G z_isinstance, PySem.W.mg_none_of X G z_int_, PySem.W.mg_none_of X G z_str_, PySem.W.mg_none_of X G z_bool_, PySem.W.mg_none_of X G z_list_, PySem.W.mg_none_of X G z_tuple_, PySem.W.mg_none_of X G z_dict_⟩
  have F_splitwords := fun_mk (st := s_splitwords) l_splitwords c_splitwords k_splitwords
  have D_splitwords : Dn K mg "split_words" s_splitwords ["text"] f_splitwords _ := ⟨F_splitwords, PySem.W.mg_of X G a_splitwords, F_splitwords.binds (ps := ["text"]) fun _ _ _ _ _ _ us hl => match us, hl with | [_], _ => rfl⟩
  have F_joinwords := fun_mk (st := s_joinwords) l_joinwords c_joinwords k_joinwords
  have D_joinwords : Dn K mg "join_words" s_joinwords ["lines"] f_joinwords _ := ⟨F_joinwords, PySem.W.mg_of X G a_joinwords, F_joinwords.binds (ps := ["lines"]) fun _ _ _ _ _ _ us hl => match us, hl with | [_], _ => rfl⟩
  have F_readnumber := fun_mk (st := s_readnumber) l_readnumber c_readnumber k_readnumber
  have D_readnumber : Dn K mg "read_number" s_readnumber ["word"] f_readnumber _ := ⟨F_readnumber, PySem.W.mg_of X G a_readnumber, F_readnumber.binds (ps := ["word"]) fun _ _ _ _ _ _ us hl => match us, hl with | [_], _ => rfl⟩
  have F_store := fun_mk (st := s_store) l_store c_store k_store
  have D_store : Dn K mg "_law_store" s_store ["script"] f_store _ := ⟨F_store, PySem.W.mg_of X G a_store, F_store.binds (ps := ["script"]) fun _ _ _ _ _ _ us hl => match us, hl with | [_], _ => rfl⟩
  have F_mixed := fun_mk (st := s_mixed) l_mixed c_mixed k_mixed
  have D_mixed : Dn K mg "_law_mixed" s_mixed ["number", "turn", "many"] f_mixed _ := ⟨F_mixed, PySem.W.mg_of X G a_mixed, F_mixed.binds (ps := ["number", "turn", "many"]) fun _ _ _ _ _ _ us hl => match us, hl with | [_, _, _], _ => rfl⟩
  have F_take := fun_mk (st := s_take) l_take c_take k_take
  have D_take : Dn K mg "_law_take" s_take ["store", "many"] f_take _ := ⟨F_take, PySem.W.mg_of X G a_take, F_take.binds (ps := ["store", "many"]) fun _ _ _ _ _ _ us hl => match us, hl with | [_, _], _ => rfl⟩
  have F_pick := fun_mk (st := s_pick) l_pick c_pick k_pick
  have D_pick : Dn K mg "_law_pick" s_pick ["store", "row"] f_pick _ := ⟨F_pick, PySem.W.mg_of X G a_pick, F_pick.binds (ps := ["store", "row"]) fun _ _ _ _ _ _ us hl => match us, hl with | [_, _], _ => rfl⟩
  have F_chance := fun_mk (st := s_chance) l_chance c_chance k_chance
  have D_chance : Dn K mg "_law_chance" s_chance ["store", "many"] f_chance _ := ⟨F_chance, PySem.W.mg_of X G a_chance, F_chance.binds (ps := ["store", "many"]) fun _ _ _ _ _ _ us hl => match us, hl with | [_, _], _ => rfl⟩
  have F_number := fun_mk (st := s_number) l_number c_number k_number
  have D_number : Dn K mg "_law_number" s_number ["store", "low", "high"] f_number _ := ⟨F_number, PySem.W.mg_of X G a_number, F_number.binds (ps := ["store", "low", "high"]) fun _ _ _ _ _ _ us hl => match us, hl with | [_, _, _], _ => rfl⟩
  have F_size := fun_mk (st := s_size) l_size c_size k_size
  have D_size : Dn K mg "_law_size" s_size ["store", "low", "high"] f_size _ := ⟨F_size, PySem.W.mg_of X G a_size, F_size.binds (ps := ["store", "low", "high"]) fun _ _ _ _ _ _ us hl => match us, hl with | [_, _, _], _ => rfl⟩
  have F_same := fun_mk (st := s_same) l_same c_same k_same
  have D_same : Dn K mg "_law_same" s_same ["one", "two"] f_same _ := ⟨F_same, PySem.W.mg_of X G a_same, F_same.binds (ps := ["one", "two"]) fun _ _ _ _ _ _ us hl => match us, hl with | [_, _], _ => rfl⟩
  have F_samerows := fun_mk (st := s_samerows) l_samerows c_samerows k_samerows
  have D_samerows : Dn K mg "_law_same_rows" s_samerows ["one", "two"] f_samerows _ := ⟨F_samerows, PySem.W.mg_of X G a_samerows, F_samerows.binds (ps := ["one", "two"]) fun _ _ _ _ _ _ us hl => match us, hl with | [_, _], _ => rfl⟩
  have F_copy := fun_mk (st := s_copy) l_copy c_copy k_copy
  have D_copy : Dn K mg "_law_copy" s_copy ["thing"] f_copy _ := ⟨F_copy, PySem.W.mg_of X G a_copy, F_copy.binds (ps := ["thing"]) fun _ _ _ _ _ _ us hl => match us, hl with | [_], _ => rfl⟩
  have F_signsoftexts := fun_mk (st := s_signsoftexts) l_signsoftexts c_signsoftexts k_signsoftexts
  have D_signsoftexts : Dn K mg "_law_signs_of_texts" s_signsoftexts [] f_signsoftexts _ := ⟨F_signsoftexts, PySem.W.mg_of X G a_signsoftexts, F_signsoftexts.binds (ps := []) fun _ _ _ _ _ _ us hl => match us, hl with | [], _ => rfl⟩
  have F_text := fun_mk (st := s_text) l_text c_text k_text
  have D_text : Dn K mg "_law_text" s_text ["store", "high"] f_text _ := ⟨F_text, PySem.W.mg_of X G a_text, F_text.binds (ps := ["store", "high"]) fun _ _ _ _ _ _ us hl => match us, hl with | [_, _], _ => rfl⟩
  have F_word := fun_mk (st := s_word) l_word c_word k_word
  have D_word : Dn K mg "_law_word" s_word ["store", "high"] f_word _ := ⟨F_word, PySem.W.mg_of X G a_word, F_word.binds (ps := ["store", "high"]) fun _ _ _ _ _ _ us hl => match us, hl with | [_, _], _ => rfl⟩
  have F_wordlines := fun_mk (st := s_wordlines) l_wordlines c_wordlines k_wordlines
  have D_wordlines : Dn K mg "_law_word_lines" s_wordlines ["store"] f_wordlines _ := ⟨F_wordlines, PySem.W.mg_of X G a_wordlines, F_wordlines.binds (ps := ["store"]) fun _ _ _ _ _ _ us hl => match us, hl with | [_], _ => rfl⟩
  have F_numberword := fun_mk (st := s_numberword) l_numberword c_numberword k_numberword
  have D_numberword : Dn K mg "_law_number_word" s_numberword ["store"] f_numberword _ := ⟨F_numberword, PySem.W.mg_of X G a_numberword, F_numberword.binds (ps := ["store"]) fun _ _ _ _ _ _ us hl => match us, hl with | [_], _ => rfl⟩
  have F_put := fun_mk (st := s_put) l_put c_put k_put
  have D_put : Dn K mg "_law_put" s_put ["lines"] f_put _ := ⟨F_put, PySem.W.mg_of X G a_put, F_put.binds (ps := ["lines"]) fun _ _ _ _ _ _ us hl => match us, hl with | [_], _ => rfl⟩
  have F_plain := fun_mk (st := s_plain) l_plain c_plain k_plain
  have D_plain : Dn K mg "_law_plain" s_plain ["lines"] f_plain _ := ⟨F_plain, PySem.W.mg_of X G a_plain, F_plain.binds (ps := ["lines"]) fun _ _ _ _ _ _ us hl => match us, hl with | [_], _ => rfl⟩
  have F_digits := fun_mk (st := s_digits) l_digits c_digits k_digits
  have D_digits : Dn K mg "_law_digits" s_digits ["word"] f_digits _ := ⟨F_digits, PySem.W.mg_of X G a_digits, F_digits.binds (ps := ["word"]) fun _ _ _ _ _ _ us hl => match us, hl with | [_], _ => rfl⟩
  have F_splitgood := fun_mk (st := s_splitgood) l_splitgood c_splitgood k_splitgood
  have D_splitgood : Dn K mg "_law_split_good" s_splitgood ["text"] f_splitgood _ := ⟨F_splitgood, PySem.W.mg_of X G a_splitgood, F_splitgood.binds (ps := ["text"]) fun _ _ _ _ _ _ us hl => match us, hl with | [_], _ => rfl⟩
  have F_joingood := fun_mk (st := s_joingood) l_joingood c_joingood k_joingood
  have D_joingood : Dn K mg "_law_join_good" s_joingood ["lines"] f_joingood _ := ⟨F_joingood, PySem.W.mg_of X G a_joingood, F_joingood.binds (ps := ["lines"]) fun _ _ _ _ _ _ us hl => match us, hl with | [_], _ => rfl⟩
  have F_numberwords := fun_mk (st := s_numberwords) l_numberwords c_numberwords k_numberwords
  have D_numberwords : Dn K mg "_law_number_words" s_numberwords ["store"] f_numberwords _ := ⟨F_numberwords, PySem.W.mg_of X G a_numberwords, F_numberwords.binds (ps := ["store"]) fun _ _ _ _ _ _ us hl => match us, hl with | [_], _ => rfl⟩
  have F_law := fun_mk (st := s_law) l_law c_law k_law
  have D_law : Dn K mg "law" s_law ["script"] _ _ := ⟨F_law, PySem.W.mg_of X G a_law, F_law.binds (ps := ["script"]) fun _ _ _ _ _ _ us hl => match us, hl with | [_], _ => rfl⟩
  refine ⟨PySem.W.fnOf "law" "law" (defArgs s_law) (defBody s_law) (defScope s_law) .none kV_law dc_law pm_law an_law cd_law ct_law, fun s v => .of_eq rfl, fun base _ _ => ?_⟩
  have G_take := ok_take (P := l.prog) (w := w) (base := base) B D_take D_mixed
  have G_pick := ok_pick (P := l.prog) (w := w) (base := base) B D_pick D_take G_take
  have G_pickL := ok_pickL (P := l.prog) (w := w) (base := base) B D_pick D_take G_take
  have G_chance := ok_chance (P := l.prog) (w := w) (base := base) B D_chance D_take G_take
  have G_number := ok_number (P := l.prog) (w := w) (base := base) B D_number D_take D_chance G_take G_chance
  have G_size := ok_size (P := l.prog) (w := w) (base := base) B D_size D_take G_take
  have G_signs := ok_signs (P := l.prog) (w := w) (base := base) B D_signsoftexts
  have G_text := ok_text (P := l.prog) (w := w) (base := base) B D_text D_take D_size D_pick D_signsoftexts G_take G_size G_pick G_signs
  have G_word := ok_word (P := l.prog) (w := w) (base := base) B D_word D_text G_text
  have G_wordlines := ok_wordlines (P := l.prog) (w := w) (base := base) B D_wordlines D_text D_chance D_size D_take G_take G_chance G_size G_text
  have G_numberword := ok_numberword (P := l.prog) (w := w) (base := base) B D_numberword D_take D_number D_pick G_take G_number G_pick G_pickL
  have G_numberwords := ok_numberwords (P := l.prog) (w := w) (base := base) B D_numberwords D_number D_pick D_numberword D_text G_number G_pick G_numberword G_text
  have G_split := ok_splitwords (P := l.prog) (w := w) (base := base) B D_splitwords
  have G_join := ok_joinwords (P := l.prog) (w := w) (base := base) B D_joinwords
  have G_read := ok_readnumber (P := l.prog) (w := w) (base := base) B (PySem.W.mg_of X G g1) (PySem.W.mg_of X G g2) D_readnumber
  have G_digits := ok_digits (P := l.prog) (w := w) (base := base) B D_digits
  have G_put := ok_put (P := l.prog) (w := w) (base := base) B D_put
  have G_plain := ok_plain (P := l.prog) (w := w) (base := base) B D_plain
  have G_copy := copy_all (P := l.prog) (w := w) (base := base) B D_copy 3
  have G_same := same_all (P := l.prog) (w := w) (base := base) B D_same D_samerows 2
  have G_sg := ok_splitgood (P := l.prog) (w := w) (base := base) B D_splitgood D_splitwords D_plain D_put D_copy D_joinwords D_same G_split G_plain G_put G_copy G_join G_same
  have G_jg := ok_joingood (P := l.prog) (w := w) (base := base) B D_joingood D_splitwords D_plain D_put D_copy D_joinwords D_same G_split G_plain G_put G_copy G_join G_same
  have G_store := ok_store (P := l.prog) (w := w) (base := base) B D_store
  exact ok_law B D_law D_store D_text D_chance D_number D_word D_wordlines D_numberwords D_splitgood D_joingood D_same D_readnumber D_digits G_store G_text G_chance G_number G_word G_wordlines G_numberwords G_sg G_jg G_same G_read G_digits
end K01
open PySem PySem.W PyProof.Rows
set_option maxRecDepth 100000 in
set_option maxHeartbeats 0 in
theorem PySem.Challenge.cw_tworooms_k01_words_of_texts_holds : PySem.Challenge.rw_tworooms_k01_words_of_texts.Holds := by
  w_on; o_law; k_head; (case hw => w_witness2)
  k_fill
  refine L2.walk_of (l := PySem.Challenge.rw_tworooms_k01_words_of_texts) (n := 63) (k := 8) (x := "script") (CX := fun _ => L2.CX0) (sp := fun w => K01.spLaw _) rfl (by decide) rfl ⟨rfl, by decide, by decide⟩ (fun w h Y => PySem.W.kIn_of Y) ?F (fun _ _ a ns hl _ hS => ⟨a, ns, rfl, hS, hl, fun _ => rfl⟩) (fun _ _ _ _ _ h => h)
  case F =>
    intro w mg fa h KX G hmg
    refine' K01.all_mk KX G hmg ?a_splitwords ?l_splitwords ?c_splitwords ?k_splitwords ?a_joinwords ?l_joinwords ?c_joinwords ?k_joinwords ?a_readnumber ?l_readnumber ?c_readnumber ?k_readnumber ?a_store ?l_store ?c_store ?k_store ?a_mixed ?l_mixed ?c_mixed ?k_mixed ?a_take ?l_take ?c_take ?k_take ?a_pick ?l_pick ?c_pick ?k_pick ?a_chance ?l_chance ?c_chance ?k_chance ?a_number ?l_number ?c_number ?k_number ?a_size ?l_size ?c_size ?k_size ?a_same ?l_same ?c_same ?k_same ?a_samerows ?l_samerows ?c_samerows ?k_samerows ?a_copy ?l_copy ?c_copy ?k_copy ?a_signsoftexts ?l_signsoftexts ?c_signsoftexts ?k_signsoftexts ?a_text ?l_text ?c_text ?k_text ?a_word ?l_word ?c_word ?k_word ?a_wordlines ?l_wordlines ?c_wordlines ?k_wordlines ?a_numberword ?l_numberword ?c_numberword ?k_numberword ?a_put ?l_put ?c_put ?k_put ?a_plain ?l_plain ?c_plain ?k_plain ?a_digits ?l_digits ?c_digits ?k_digits ?a_splitgood ?l_splitgood ?c_splitgood ?k_splitgood ?a_joingood ?l_joingood ?c_joingood ?k_joingood ?a_numberwords ?l_numberwords ?c_numberwords ?k_numberwords ?a_law ?l_law ?c_law ?k_law ?g1 ?g2 ?z_len ?z_range ?z_abs ?z_ord ?z_min ?z_max ?z_all ?z_isinstance ?z_int_ ?z_str_ ?z_bool_ ?z_list_ ?z_tuple_ ?z_dict_
    (case a_splitwords => k_is)
    (case l_splitwords => k_is)
    (case c_splitwords => k_is)
    (case k_splitwords => k_is)
    (case a_joinwords => k_is)
    (case l_joinwords => k_is)
    (case c_joinwords => k_is)
    (case k_joinwords => k_is)
    (case a_readnumber => k_is)
    (case l_readnumber => k_is)
    (case c_readnumber => k_is)
    (case k_readnumber => k_is)
    (case a_store => k_is)
    (case l_store => k_is)
    (case c_store => k_is)
    (case k_store => k_is)
    (case a_mixed => k_is)
    (case l_mixed => k_is)
    (case c_mixed => k_is)
    (case k_mixed => k_is)
    (case a_take => k_is)
    (case l_take => k_is)
    (case c_take => k_is)
    (case k_take => k_is)
    (case a_pick => k_is)
    (case l_pick => k_is)
    (case c_pick => k_is)
    (case k_pick => k_is)
    (case a_chance => k_is)
    (case l_chance => k_is)
    (case c_chance => k_is)
    (case k_chance => k_is)
    (case a_number => k_is)
    (case l_number => k_is)
    (case c_number => k_is)
    (case k_number => k_is)
    (case a_size => k_is)
    (case l_size => k_is)
    (case c_size => k_is)
    (case k_size => k_is)
    (case a_same => k_is)
    (case l_same => k_is)
    (case c_same => k_is)
    (case k_same => k_is)
    (case a_samerows => k_is)
    (case l_samerows => k_is)
    (case c_samerows => k_is)
    (case k_samerows => k_is)
    (case a_copy => k_is)
    (case l_copy => k_is)
    (case c_copy => k_is)
    (case k_copy => k_is)
    (case a_signsoftexts => k_is)
    (case l_signsoftexts => k_is)
    (case c_signsoftexts => k_is)
    (case k_signsoftexts => k_is)
    (case a_text => k_is)
    (case l_text => k_is)
    (case c_text => k_is)
    (case k_text => k_is)
    (case a_word => k_is)
    (case l_word => k_is)
    (case c_word => k_is)
    (case k_word => k_is)
    (case a_wordlines => k_is)
    (case l_wordlines => k_is)
    (case c_wordlines => k_is)
    (case k_wordlines => k_is)
    (case a_numberword => k_is)
    (case l_numberword => k_is)
    (case c_numberword => k_is)
    (case k_numberword => k_is)
    (case a_put => k_is)
    (case l_put => k_is)
    (case c_put => k_is)
    (case k_put => k_is)
    (case a_plain => k_is)
    (case l_plain => k_is)
    (case c_plain => k_is)
    (case k_plain => k_is)
    (case a_digits => k_is)
    (case l_digits => k_is)
    (case c_digits => k_is)
    (case k_digits => k_is)
    (case a_splitgood => k_is)
    (case l_splitgood => k_is)
    (case c_splitgood => k_is)
    (case k_splitgood => k_is)
    (case a_joingood => k_is)
    (case l_joingood => k_is)
    (case c_joingood => k_is)
    (case k_joingood => k_is)
    (case a_numberwords => k_is)
    (case l_numberwords => k_is)
    (case c_numberwords => k_is)
    (case k_numberwords => k_is)
    (case a_law => k_is)
    (case l_law => k_is)
    (case c_law => k_is)
    (case k_law => k_is)
    (case g1 => k_is)
    (case g2 => k_is)
    (case z_len => k_is)
    (case z_range => k_is)
    (case z_abs => k_is)
    (case z_ord => k_is)
    (case z_min => k_is)
    (case z_max => k_is)
    (case z_all => k_is)
    (case z_isinstance => k_is)
    (case z_int_ => k_is)
    (case z_str_ => k_is)
    (case z_bool_ => k_is)
    (case z_list_ => k_is)
    (case z_tuple_ => k_is)
    (case z_dict_ => k_is)
