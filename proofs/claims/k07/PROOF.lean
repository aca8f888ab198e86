import PyProof.Rows.All
import Wide.All
import OpenK.AllK
import Wide.FinOn
import HandS.ForMost
import HandS.Wide
import HandS.IsInst
import HandS.ReplaceLit
import HandS.Codes
import KE.KStateDown
import HandS.Words
import HandS.WordsExc
import HandS.ExcOwn
import HandS.ExcField
import HandS.ExcIs
import HandS.ExcInit
import HandS.Defaults
import HandS.Head0
import HandS.Head1
import HandS.Head2
import HandS.HeadEnd
import HandS.HeadHook1
import HandS.HeadHook2
import HandS.HeadHook3
import HandS.Property
import HandS.ReplaceDef
import HandS.Base
import HandS.Comp
import HandS.HotCalls
import KE.KExcIs
import HandS.Exc
import HandS.ExcCtx
import HandS.Dict
import HandS.More
import HandS.WrittenGet
import HandS.Style
import HandS.Star
import KE.KStar
import HandS.FStr
import PyProof.InstEq
import KE.KOpsOwn
import HandS.Call
import HandS.List
import HandS.OwnEq
import HandS.IterVal
import HandS.Zip
import KE.GoesEnum
import KE.KOwnIter
import HandS.TupSets
import HandS.SetKeys
import KE.SortData
import PyProof.FString5
import HandS.DictComp
import OpenK.KOps
import PyProof.Rows.SetFrom
import PySem.Challenge.RW_tworooms_k07_boards_are_made
set_option Elab.async false
set_option linter.all false
set_option maxRecDepth 100000
set_option maxHeartbeats 4000000
namespace K01
open PySem PySem.Spec PyProof.Rows L2
def topS (i : Nat) : Stmt := PySem.Challenge.pw_tworooms_k07_boards_are_made.main.body.getD i (.Pass ⟨0, 0, 0, 0⟩)
/-- built-ins that the top leaves as they are -/
structure Bi (mg : Str → Option Value) : Prop where
  len : mg "len" = none
  range : mg "range" = none
  abs : mg "abs" = none
  ord : mg "ord" = none
  min : mg "min" = none
  max : mg "max" = none
  all : mg "all" = none
  isinstance : mg "isinstance" = none
  int_ : mg "int" = none
  str_ : mg "str" = none
  bool_ : mg "bool" = none
  list_ : mg "list" = none
  tuple_ : mg "tuple" = none
  dict_ : mg "dict" = none
/-- a def of the top -/
structure Dn (K : PySem.W.Frag) (mg : Str → Option Value) (x : Str) (st : Stmt) (ps : List Str) (f : Addr) (fd : FuncData) : Prop where
  F : Fun K x x st f fd
  g : mg x = some (.ref f)
  b : Binds K fd ps []
/-! ### readings that simp can take -/
theorem callR_mono {X : Cx} {f : Value} {r r' : List V → Hp → VK → Prop} (h : CallR X f r) (k : ∀ xs H Q, r' xs H Q → r xs H Q) : CallR X f r' :=
  fun pins s σ H xs us Q I rv q => h pins s σ H xs us Q I rv (k _ _ _ q)
theorem r_seq {t u : TS} {D : Ends} {σ : L2.St} {H : Hp} (h : t { D with nx := u D } σ H) : tSeq t u D σ H := h
theorem r_cut {t u : TS} {D : Ends} {σ : L2.St} {H : Hp} (M : L2.St → Hp → Prop) (h1 : ∀ N : L2.St → Hp → Prop, (∀ σ H, M σ H → N σ H) → t { D with nx := N } σ H) (h2 : ∀ σ' H', M σ' H' → u D σ' H') : C8.tCut t u D σ H := ⟨M, h1 M (fun _ _ h => h), h2⟩
/-! ### loops and comprehensions, folded -/
def LoopR (lo : Int) (n : Nat) (g : TG) (tb : TS) (D : Ends) (σ : L2.St) (H : Hp) : Prop := ∃ W : Nat → Nat → L2.St → Hp → Prop, (∃ m, W 0 m σ H) ∧ ∀ i m σ H, W i m σ H →
  ((Itr lo n).stop i H ∧ D.nx σ H) ∨ ((Itr lo n).go i H ∧ ∃ N : L2.St → Hp → Prop, (∀ σ' H', N σ' H' → ∃ m', m' < m ∧ W (i + 1) m' σ' H') ∧ ∀ x H', (Itr lo n).yld i H x H' → g x σ H' fun σ2 H2 => tb { D with nx := N, ct := N, bk := D.nx } σ2 H2)
def LoopL (K : PySem.W.Frag) (a : Addr) (g : TG) (tb : TS) (D : Ends) (σ : L2.St) (H : Hp) : Prop := ∃ W : Nat → Nat → L2.St → Hp → Prop, (∃ m, W 0 m σ H) ∧ ∀ i m σ H, W i m σ H →
  ((Itl K a).stop i H ∧ D.nx σ H) ∨ ((Itl K a).go i H ∧ ∃ N : L2.St → Hp → Prop, (∀ σ' H', N σ' H' → ∃ m', m' < m ∧ W (i + 1) m' σ' H') ∧ ∀ x H', (Itl K a).yld i H x H' → g x σ H' fun σ2 H2 => tb { D with nx := N, ct := N, bk := D.nx } σ2 H2)
def LoopS (z : Str) (g : TG) (tb : TS) (D : Ends) (σ : L2.St) (H : Hp) : Prop := ∃ W : Nat → Nat → L2.St → Hp → Prop, (∃ m, W 0 m σ H) ∧ ∀ i m σ H, W i m σ H →
  ((Its z).stop i H ∧ D.nx σ H) ∨ ((Its z).go i H ∧ ∃ N : L2.St → Hp → Prop, (∀ σ' H', N σ' H' → ∃ m', m' < m ∧ W (i + 1) m' σ' H') ∧ ∀ x H', (Its z).yld i H x H' → g x σ H' fun σ2 H2 => tb { D with nx := N, ct := N, bk := D.nx } σ2 H2)
theorem forR_eq {ta : TA} {g : TG} {tb : TS} {D : Ends} {σ : L2.St} {H : Hp} : tFor (iRng1 ta) g tb D σ H = ta σ H (fun vs H1 => ∃ j : Int, vs = [V.int j] ∧ -(2 ^ 62) ≤ j ∧ j < 2 ^ 62 ∧ LoopR 0 j.toNat g tb D σ H1) := rfl
theorem forR2_eq {ta : TA} {g : TG} {tb : TS} {D : Ends} {σ : L2.St} {H : Hp} : tFor (iRng2 ta) g tb D σ H = ta σ H (fun vs H1 => ∃ i j : Int, vs = [V.int i, V.int j] ∧ (-(2 ^ 62) ≤ i ∧ i < 2 ^ 62 ∧ -(2 ^ 62) ≤ j ∧ j < 2 ^ 62) ∧ LoopR i (j - i).toNat g tb D σ H1) := rfl
theorem forS_eq {te : TE} {g : TG} {tb : TS} {D : Ends} {σ : L2.St} {H : Hp} : tFor (iStr te) g tb D σ H = te σ H (fun v H1 => ∃ z, v = V.str z ∧ LoopS z g tb D σ H1) := rfl
theorem forL_eq {K : PySem.W.Frag} {te : TE} {g : TG} {tb : TS} {D : Ends} {σ : L2.St} {H : Hp} : tFor (iList K te) g tb D σ H = te σ H (fun v H1 => ∃ a, v = V.ref a ∧ ∃ xs, SqL K H1 a xs ∧ LoopL K a g tb D σ H1) := by
  show te σ H _ = te σ H _
  congr 1
  funext v H1
  refine propext ⟨fun ⟨a, e, ⟨xs, h⟩, q⟩ => ⟨a, e, xs, h, q⟩, fun ⟨a, e, xs, h, q⟩ => ⟨a, e, ⟨xs, h⟩, q⟩⟩
theorem r_range {lo : Int} {n : Nat} {g : TG} {tb : TS} {D : Ends} {σ : L2.St} {H : Hp} (Pv : Nat → L2.St → Hp → Prop) (h0 : Pv 0 σ H)
    (hs : ∀ i σ H, i < n → Pv i σ H → ∀ N : L2.St → Hp → Prop, (∀ σ H, Pv (i + 1) σ H → N σ H) → g (.int (lo + i)) σ H fun σ2 H2 => tb { D with nx := N, ct := N, bk := D.nx } σ2 H2) (hd : ∀ σ H, Pv n σ H → D.nx σ H) : LoopR lo n g tb D σ H :=
  for_range Pv h0 (fun i σ H hi hp => hs i σ H hi hp _ (fun _ _ h => h)) hd
theorem r_list {K : PySem.W.Frag} {a : Addr} (xs : List V) {g : TG} {tb : TS} {D : Ends} {σ : L2.St} {H : Hp} (Pv : Nat → L2.St → Hp → Prop) (h0 : Pv 0 σ H) (hl : ∀ i σ H, i ≤ xs.length → Pv i σ H → SqL K H a xs)
    (hs : ∀ i x σ H, xs[i]? = some x → Pv i σ H → ∀ N : L2.St → Hp → Prop, (∀ σ H, Pv (i + 1) σ H → N σ H) → g x σ H fun σ2 H2 => tb { D with nx := N, ct := N, bk := D.nx } σ2 H2) (hd : ∀ σ H, Pv xs.length σ H → D.nx σ H) : LoopL K a g tb D σ H :=
  for_list Pv h0 hl (fun i x σ H hi hp => hs i x σ H hi hp _ (fun _ _ h => h)) hd
theorem r_str (z : Str) {g : TG} {tb : TS} {D : Ends} {σ : L2.St} {H : Hp} (Pv : Nat → L2.St → Hp → Prop) (h0 : Pv 0 σ H)
    (hs : ∀ i c σ H, z.cps.toList[i]? = some c → Pv i σ H → ∀ N : L2.St → Hp → Prop, (∀ σ H, Pv (i + 1) σ H → N σ H) → g (.str ⟨#[c]⟩) σ H fun σ2 H2 => tb { D with nx := N, ct := N, bk := D.nx } σ2 H2) (hd : ∀ σ H, Pv z.cps.toList.length σ H → D.nx σ H) : LoopS z g tb D σ H := by
  refine ⟨fun i m σ H => m = z.cps.toList.length - i ∧ i ≤ z.cps.toList.length ∧ Pv i σ H, ⟨_, rfl, Nat.zero_le _, h0⟩, ?_⟩
  rintro i m σ H ⟨rfl, hi, p⟩
  have el : z.cps.toList.length = z.cps.size := Array.length_toList
  by_cases hlt : i < z.cps.toList.length
  · refine .inr ⟨by rw [el] at hlt; exact hlt, Pv (i + 1), fun σ' H' p' => ⟨z.cps.toList.length - (i + 1), by omega, rfl, hlt, p'⟩, fun x H' y => ?_⟩
    obtain ⟨e, c, hc, ex⟩ := y
    subst e ex
    refine hs i c σ _ ?_ p _ fun _ _ h => h
    rw [Array.getElem?_toList]
    exact hc
  · have e : i = z.cps.toList.length := by omega
    subst e
    exact .inl ⟨by show z.cps.size ≤ z.cps.toList.length; omega, hd σ H p⟩
def LcL (K : PySem.W.Frag) (a : Addr) (g : TG) (te : TE) (vs : List Nat) (σ : L2.St) (H1 : Hp) (D : Addr) (Q : Hp → Prop) : Prop := ∃ W : Nat → Nat → Hp → Prop, (∃ m, W 0 m (upd H1 D (.lst []))) ∧ ∀ i m H, W i m H →
  ((Itl K a).stop i H ∧ Q H) ∨ ((Itl K a).go i H ∧ ∃ Nx : Hp → Prop, (∀ H', Nx H' → ∃ m', m' < m ∧ W (i + 1) m' H') ∧ ∀ x H', (Itl K a).yld i H x H' → g x (wipe σ vs) H' fun σ2 H2 => wipe σ2 vs = wipe σ vs ∧ tYes σ2 H2 fun b H3 =>
    if b = true then te σ2 H3 fun y H4 => ∃ acc, H4 D = some (.lst acc) ∧ acc.length < sizeLine ∧ Nx (upd H4 D (.lst (acc ++ [y]))) else Nx H3)
def LcR (lo : Int) (n : Nat) (g : TG) (te : TE) (vs : List Nat) (σ : L2.St) (H1 : Hp) (D : Addr) (Q : Hp → Prop) : Prop := ∃ W : Nat → Nat → Hp → Prop, (∃ m, W 0 m (upd H1 D (.lst []))) ∧ ∀ i m H, W i m H →
  ((Itr lo n).stop i H ∧ Q H) ∨ ((Itr lo n).go i H ∧ ∃ Nx : Hp → Prop, (∀ H', Nx H' → ∃ m', m' < m ∧ W (i + 1) m' H') ∧ ∀ x H', (Itr lo n).yld i H x H' → g x (wipe σ vs) H' fun σ2 H2 => wipe σ2 vs = wipe σ vs ∧ tYes σ2 H2 fun b H3 =>
    if b = true then te σ2 H3 fun y H4 => ∃ acc, H4 D = some (.lst acc) ∧ acc.length < sizeLine ∧ Nx (upd H4 D (.lst (acc ++ [y]))) else Nx H3)
def LcS (z : Str) (g : TG) (te : TE) (vs : List Nat) (σ : L2.St) (H1 : Hp) (D : Addr) (Q : Hp → Prop) : Prop := ∃ W : Nat → Nat → Hp → Prop, (∃ m, W 0 m (upd H1 D (.lst []))) ∧ ∀ i m H, W i m H →
  ((Its z).stop i H ∧ Q H) ∨ ((Its z).go i H ∧ ∃ Nx : Hp → Prop, (∀ H', Nx H' → ∃ m', m' < m ∧ W (i + 1) m' H') ∧ ∀ x H', (Its z).yld i H x H' → g x (wipe σ vs) H' fun σ2 H2 => wipe σ2 vs = wipe σ vs ∧ tYes σ2 H2 fun b H3 =>
    if b = true then te σ2 H3 fun y H4 => ∃ acc, H4 D = some (.lst acc) ∧ acc.length < sizeLine ∧ Nx (upd H4 D (.lst (acc ++ [y]))) else Nx H3)
theorem lcL_eq {K : PySem.W.Frag} {tl te : TE} {g : TG} {vs : List Nat} {σ : L2.St} {H : Hp} {Q : VK} : tLc (iList K tl) g tYes te vs σ H Q = tl σ H (fun v H1 => ∃ a, v = V.ref a ∧ ∃ xs, SqL K H1 a xs ∧ ∀ D, H1 D = none → LcL K a g te vs σ H1 D (Q (.ref D))) := by
  show tl σ H _ = tl σ H _
  congr 1
  funext v H1
  exact propext ⟨fun ⟨a, e, ⟨xs, h⟩, q⟩ => ⟨a, e, xs, h, q⟩, fun ⟨a, e, xs, h, q⟩ => ⟨a, e, ⟨xs, h⟩, q⟩⟩
theorem lcR_eq {ta : TA} {te : TE} {g : TG} {vs : List Nat} {σ : L2.St} {H : Hp} {Q : VK} : tLc (iRng1 ta) g tYes te vs σ H Q = ta σ H (fun vs' H1 => ∃ j : Int, vs' = [V.int j] ∧ -(2 ^ 62) ≤ j ∧ j < 2 ^ 62 ∧ ∀ D, H1 D = none → LcR 0 j.toNat g te vs σ H1 D (Q (.ref D))) := rfl
theorem lcS_eq {tl te : TE} {g : TG} {vs : List Nat} {σ : L2.St} {H : Hp} {Q : VK} : tLc (iStr tl) g tYes te vs σ H Q = tl σ H (fun v H1 => ∃ z, v = V.str z ∧ ∀ D, H1 D = none → LcS z g te vs σ H1 D (Q (.ref D))) := rfl
/-- a comprehension without a test; N: what is behind a turn -/
theorem r_lcL {K : PySem.W.Frag} {a : Addr} (xs : List V) {j : Nat} {te : TE} {vs : List Nat} {σ : L2.St} {H1 : Hp} {D : Addr} {Qd : Hp → Prop} (Pv : Nat → Hp → Prop) (hw : ∀ x, wipe ((wipe σ vs).set j (some x)) vs = wipe σ vs)
    (h0 : Pv 0 (upd H1 D (.lst []))) (hl : ∀ i H, i ≤ xs.length → Pv i H → SqL K H a xs)
    (hs : ∀ i x H, xs[i]? = some x → Pv i H → ∀ N : VK, (∀ y H4 acc, H4 D = some (.lst acc) → acc.length < sizeLine → Pv (i + 1) (upd H4 D (.lst (acc ++ [y]))) → N y H4) → te ((wipe σ vs).set j (some x)) H N) (hd : ∀ H, Pv xs.length H → Qd H) : LcL K a (gName j) te vs σ H1 D Qd :=
  lc_list (g := gName j) (tt := tYes) Pv h0 hl (fun i x H hx hp => ⟨hw x, by
    simp only [tYes, if_pos]
    exact hs i x H hx hp _ fun y H4 acc h1 h2 h3 => ⟨acc, h1, h2, h3⟩⟩) hd
theorem r_lcR {lo : Int} {n : Nat} {j : Nat} {te : TE} {vs : List Nat} {σ : L2.St} {H1 : Hp} {D : Addr} {Qd : Hp → Prop} (Pv : Nat → Hp → Prop) (hw : ∀ x, wipe ((wipe σ vs).set j (some x)) vs = wipe σ vs)
    (h0 : Pv 0 (upd H1 D (.lst [])))
    (hs : ∀ i H, i < n → Pv i H → ∀ N : VK, (∀ y H4 acc, H4 D = some (.lst acc) → acc.length < sizeLine → Pv (i + 1) (upd H4 D (.lst (acc ++ [y]))) → N y H4) → te ((wipe σ vs).set j (some (.int (lo + i)))) H N) (hd : ∀ H, Pv n H → Qd H) : LcR lo n (gName j) te vs σ H1 D Qd :=
  lc_range (g := gName j) (tt := tYes) Pv h0 (fun i H hi hp => ⟨hw _, by
    simp only [tYes, if_pos]
    exact hs i H hi hp _ fun y H4 acc h1 h2 h3 => ⟨acc, h1, h2, h3⟩⟩) hd
theorem r_lcS (z : Str) {j : Nat} {te : TE} {vs : List Nat} {σ : L2.St} {H1 : Hp} {D : Addr} {Qd : Hp → Prop} (Pv : Nat → Hp → Prop) (hw : ∀ x, wipe ((wipe σ vs).set j (some x)) vs = wipe σ vs)
    (h0 : Pv 0 (upd H1 D (.lst [])))
    (hs : ∀ i c H, z.cps.toList[i]? = some c → Pv i H → ∀ N : VK, (∀ y H4 acc, H4 D = some (.lst acc) → acc.length < sizeLine → Pv (i + 1) (upd H4 D (.lst (acc ++ [y]))) → N y H4) → te ((wipe σ vs).set j (some (.str ⟨#[c]⟩))) H N) (hd : ∀ H, Pv z.cps.toList.length H → Qd H) : LcS z (gName j) te vs σ H1 D Qd := by
  refine ⟨fun i m H => m = z.cps.toList.length - i ∧ i ≤ z.cps.toList.length ∧ Pv i H, ⟨_, rfl, Nat.zero_le _, h0⟩, ?_⟩
  rintro i m H ⟨rfl, hi, p⟩
  have el : z.cps.toList.length = z.cps.size := Array.length_toList
  by_cases hlt : i < z.cps.toList.length
  · refine .inr ⟨by rw [el] at hlt; exact hlt, Pv (i + 1), fun H' p' => ⟨z.cps.toList.length - (i + 1), by omega, rfl, hlt, p'⟩, fun x H' y => ?_⟩
    obtain ⟨e, c, hc, ex⟩ := y
    subst e ex
    refine ⟨hw _, ?_⟩
    simp only [tYes, if_pos]
    exact hs i c _ (by rw [Array.getElem?_toList]; exact hc) p _ fun y H4 acc h1 h2 h3 => ⟨acc, h1, h2, h3⟩
  · have e : i = z.cps.toList.length := by omega
    subst e
    exact .inl ⟨by show z.cps.size ≤ z.cps.toList.length; omega, hd H p⟩
/-! ### built-ins, by named readings -/
def rLenX (K : PySem.W.Frag) (xs : List V) (H : Hp) (Q : VK) : Prop := ∃ p, xs = [V.ref p] ∧ ∃ ys, (SqL K H p ys ∨ SqT K H p ys) ∧ Q (.int ys.length) H
theorem call_lenX {X : Cx} : CallR X (.builtin "len") (rLenX X.K) := callR_mono call_len_seq fun xs H Q ⟨p, e, ys, h, q⟩ => ⟨p, ys, e, h, q⟩
def rLenS (xs : List V) (H : Hp) (Q : VK) : Prop := ∃ z, xs = [V.str z] ∧ z.length ≤ sizeLine ∧ Q (.int z.length) H
theorem call_lenS {X : Cx} : CallR X (.builtin "len") rLenS := callR_mono call_len_str fun xs H Q h => h
def rIntI (xs : List V) (H : Hp) (Q : VK) : Prop := ∃ i, xs = [V.int i] ∧ Q (.int i) H
theorem call_intI {X : Cx} : CallR X (.type "int") rIntI := callR_mono call_int1 fun _ _ _ h => .inl h
def rIntB (xs : List V) (H : Hp) (Q : VK) : Prop := ∃ k, xs = [V.bl k] ∧ Q (.int (if k = true then 1 else 0)) H
theorem call_intB {X : Cx} : CallR X (.type "int") rIntB := callR_mono call_int1 fun _ _ _ h => .inr h
def rIntS (xs : List V) (H : Hp) (Q : VK) : Prop := ∃ z, xs = [V.str z] ∧ ∃ n, PySem.intText? z = some n ∧ z.length ≤ 640 ∧ Q (.int n) H
theorem call_intS {X : Cx} : CallR X (.type "int") rIntS := callR_mono call_int_str fun _ _ _ ⟨z, e, n, h1, h2, q⟩ => ⟨z, n, e, h1, h2, q⟩
def rStrI (xs : List V) (H : Hp) (Q : VK) : Prop := ∃ i, xs = [V.int i] ∧ i.natAbs.log2 < 1920 ∧ Q (.str (toString i)) H
theorem call_strI {X : Cx} : CallR X (.type "str") rStrI := callR_mono call_str_int fun _ _ _ h => h
def rAbs (xs : List V) (H : Hp) (Q : VK) : Prop := ∃ i, xs = [V.int i] ∧ Q (.int (if i < 0 then -i else i)) H
theorem call_absI {X : Cx} : CallR X (.builtin "abs") rAbs := callR_mono call_abs fun _ _ _ h => h
def rOrd (xs : List V) (H : Hp) (Q : VK) : Prop := ∃ c : Nat, xs = [V.str ⟨#[c]⟩] ∧ Q (.int c) H
theorem call_ordI {X : Cx} : CallR X (.builtin "ord") rOrd := callR_mono call_ord fun _ _ _ ⟨c, e, q⟩ => ⟨_, e, rfl, q⟩
def rMin (xs : List V) (H : Hp) (Q : VK) : Prop := ∃ i j, xs = [V.int i, V.int j] ∧ Q (.int (if j < i then j else i)) H
theorem call_minI {X : Cx} (hc : X.calm = true) : CallR X (.builtin "min") rMin := callR_mono (call_min2 hc) fun _ _ _ h => h
def rMax (xs : List V) (H : Hp) (Q : VK) : Prop := ∃ i j, xs = [V.int i, V.int j] ∧ Q (.int (if j > i then j else i)) H
theorem call_maxI {X : Cx} (hc : X.calm = true) : CallR X (.builtin "max") rMax := callR_mono (call_max2 hc) fun _ _ _ h => h
def rSplit (x : V) (xs : List V) (H : Hp) (Q : VK) : Prop := ∃ a, x = .str a ∧ ∃ b, xs = [V.str b] ∧ (b.length == 0) = false ∧ a.length + 2 ≤ sizeLine ∧ ∀ p, H p = none → Q (.ref p) (L2.upd H p (.lst ((Txt.split a b).map V.str)))
def rJoin (K : PySem.W.Frag) (x : V) (xs : List V) (H : Hp) (Q : VK) : Prop := ∃ a, x = .str a ∧ ∃ p, xs = [V.ref p] ∧ ∃ ys : List Str, SqL K H p (ys.map V.str) ∧ (ys.map (·.length)).sum + ys.length * a.length ≤ 16777216 ∧ Q (.str (Txt.join a ys)) H
theorem mtR_mono {X : Cx} {id : String} {r r' : V → List V → Hp → VK → Prop} (h : MtR X id r) (k : ∀ x xs H Q, r' x xs H Q → r x xs H Q) : MtR X id r' :=
  fun pins s σ H x xs v us Q I rx rv q => h pins s σ H x xs v us Q I rx rv (k _ _ _ _ q)
def rSplitN (x : V) (xs : List V) (H : Hp) (Q : VK) : Prop := ∃ a, x = .str a ∧ ∃ b, xs = [V.str b] ∧ (b.length == 0) = false ∧ a.length + 2 ≤ sizeLine ∧ ∀ p, H p = none → Q (.ref p) (L2.upd H p (.lst ((Txt.split a b).map V.str)))
theorem mt_splitN {X : Cx} : MtR X "str.split" rSplitN := mtR_mono mt_split fun _ _ _ _ ⟨a, e, b, e2, h, h2, q⟩ => ⟨a, b, e, e2, h, h2, q⟩
def rJoinN (K : PySem.W.Frag) (x : V) (xs : List V) (H : Hp) (Q : VK) : Prop := ∃ a, x = .str a ∧ ∃ p, xs = [V.ref p] ∧ ∃ ys : List Str, SqL K H p (ys.map V.str) ∧ (ys.map (·.length)).sum + ys.length * a.length ≤ 16777216 ∧ Q (.str (Txt.join a ys)) H
theorem mt_joinN {X : Cx} : MtR X "str.join" (rJoinN X.K) := mtR_mono mt_join fun _ _ _ _ ⟨a, e, p, e2, ys, h, h2, q⟩ => ⟨a, p, ys, e, e2, .inl h, h2, q⟩
/-- an item of a list or a tuple -/
def rIxX (K : PySem.W.Frag) : R2 := fun x y H Q => ∃ p i, x = .ref p ∧ y = .int i ∧ ∃ xs, (SqL K H p xs ∨ SqT K H p xs) ∧ ∃ v, atI xs i = some v ∧ Q v H
theorem ix_sx {X : Cx} : IxR X (rIxX X.K) := by
  intro value slice pins s σ H x y v u Q I rx ry h hs
  obtain ⟨p, i, e1, e2, xs, hq | hq, z, he, q⟩ := h
  · exact ix_list value slice pins s σ H x y v u Q I rx ry ⟨p, xs, i, z, e1, e2, hq, he, q⟩ hs
  · exact ix_tup value slice pins s σ H x y v u Q I rx ry ⟨p, xs, i, z, e1, e2, hq, he, q⟩ hs
/-! ### the same rules with the written part named -/
theorem ix_listK {X : Cx} {K : PySem.W.Frag} (h : X.K = K := by rfl) : IxR X (rIxL K) := h ▸ ix_list
theorem ix_tupK {X : Cx} {K : PySem.W.Frag} (h : X.K = K := by rfl) : IxR X (rIxT K) := h ▸ ix_tup
theorem ix_sxK {X : Cx} {K : PySem.W.Frag} (h : X.K = K := by rfl) : IxR X (rIxX K) := h ▸ ix_sx
theorem sl_listK {X : Cx} {K : PySem.W.Frag} (h : X.K = K := by rfl) : SlR X (rSlL K) := h ▸ sl_list
theorem call_lenXK {X : Cx} {K : PySem.W.Frag} (h : X.K = K := by rfl) : CallR X (.builtin "len") (rLenX K) := h ▸ call_lenX
theorem mt_joinK {X : Cx} {K : PySem.W.Frag} (h : X.K = K := by rfl) : MtR X "str.join" (rJoinN K) := h ▸ mt_joinN
theorem pi_listK {X : Cx} {K : PySem.W.Frag} {tg l : Expr} {tl : TE} (hl : PE X l tl) (h : X.K = K := by rfl) : PI X tg l (iList K tl) := h ▸ pi_list hl
theorem atI_get {α : Type} {xs : List α} {i : Int} (h0 : 0 ≤ i) (h : i.toNat < xs.length) : ∃ z, atI xs i = some z ∧ xs[i.toNat]? = some z := by
  have e : i = (i.toNat : Int) := by omega
  have g := List.getElem?_eq_getElem h
  exact ⟨_, (congrArg (atI xs) e).trans (atI_nat g), g⟩
theorem atI_map {ns : List Int} {i : Int} (h0 : 0 ≤ i) (h : i.toNat < ns.length) : ∃ z, atI (ns.map V.int) i = some (.int z) := by
  obtain ⟨z, e1, e2⟩ := atI_get (xs := ns.map V.int) h0 (by rw [List.length_map]; exact h)
  rw [List.getElem?_map] at e2
  cases e : ns[i.toNat]? with
  | none =>
    rw [e] at e2
    cases e2
  | some y =>
    rw [e] at e2
    cases e2
    exact ⟨y, e1⟩
theorem map_get {α β : Type} {f : α → β} {xs : List α} {i : Nat} {y : β} (h : (xs.map f)[i]? = some y) : ∃ x, xs[i]? = some x ∧ y = f x := by
  rw [List.getElem?_map] at h
  cases e : xs[i]? with
  | none => rw [e] at h; cases h
  | some x => rw [e] at h; exact ⟨x, rfl, (Option.some.inj h).symm⟩
theorem take_map {α β : Type} {f : α → β} {xs : List α} {i : Nat} {x : α} (h : xs[i]? = some x) : (xs.take i).map f ++ [f x] = (xs.take (i + 1)).map f := by
  rw [List.take_add_one, h, List.map_append]
  rfl
theorem lt_of_get {α : Type} {xs : List α} {i : Nat} {x : α} (h : xs[i]? = some x) : i < xs.length := (List.getElem?_eq_some_iff.mp h).1
theorem start1 {N : List Str} {vs : List V} : L2.start N vs = vs.map some ++ List.replicate (N.length - vs.length) none := rfl
theorem sq_of {K : PySem.W.Frag} {H : Hp} {a : Addr} {xs : List V} (h : H a = some (.lst xs)) : SqL K H a xs := .inl (.inl h)
/-- all that was tracked stands, but what is at a -/
def But (a : Addr) (H H' : Hp) : Prop := ∀ b o, b ≠ a → H b = some o → H' b = some o
theorem But.refl (a : Addr) (H : Hp) : But a H H := fun _ _ _ h => h
theorem But.trans {a : Addr} {H H1 H2 : Hp} (p : But a H H1) (q : But a H1 H2) : But a H H2 := fun b o n h => q b o n (p b o n h)
theorem But.updA {a : Addr} {H : Hp} {o : HO} : But a H (L2.upd H a o) := fun b x n h => by rw [upd_ne n]; exact h
theorem But.new {a p : Addr} {H : Hp} {o : HO} (h : H p = none) : But a H (upd H p o) := fun b x _ e => by rw [upd_ne (ne_of_none e h)]; exact e
theorem But.of {a : Addr} {H H' : Hp} (h : Same H H') : But a H H' := fun b o _ e => h b o e
theorem Same.new {p : Addr} {H : Hp} {o : HO} (h : H p = none) : Same H (upd H p o) := fun b x e => by rw [upd_ne (ne_of_none e h)]; exact e
theorem But.same {c : Addr} {H H' : Hp} (n : H c = none) (h : But c H H') : Same H H' := fun b o e => h b o (ne_of_none e n) e
theorem But.seq {K : PySem.W.Frag} {c a : Addr} {H H' : Hp} {xs : List V} (h : But c H H') (n : a ≠ c) (S : SqL K H a xs) : SqL K H' a xs := by
  rcases S with (S | ⟨o, S⟩) | S
  · exact .inl (.inl (h _ _ n S))
  · exact .inl (.inr ⟨o, h _ _ n S⟩)
  · exact .inr S
end K01
namespace K01
open PySem PySem.Spec PyProof.Rows L2
/-- a class's own def -/
def clsS (i j : Nat) : Stmt := match topS i with
  | .ClassDef _ _ _ b _ _ _ _ _ _ _ => b.getD j (.Pass ⟨0, 0, 0, 0⟩)
  | _ => .Pass ⟨0, 0, 0, 0⟩
end K01
/-! what the top has left, told by one run: own facts, defs, classes -/
namespace HX
open PySem PySem.Spec PyProof.Rows L2 He
abbrev Ft : Type := PySem.W.Frag → Bool
def obsX (fa : List Ft) (fn : List DefD) (K : PySem.W.Frag) : AlD := ((fa.all fun f => f K) && fn.all fun d => d.ok K, fn.map fun d => fnW K d.at_)
def SaysX (fa : List Ft) (fn : List DefD) (K : PySem.W.Frag) : Prop := obsX fa fn K = valD fn
/-! the objects that the facts are read from, laid out once -/
def frA {α : Type} : List Addr → (List Addr → α) → α
  | [], k => k []
  | a :: r, k => HandSHeadRun.frNat a fun a => frA r fun r => k (a :: r)
theorem frA_eq {α : Type} : ∀ (as : List Addr) (k : List Addr → α), frA as k = k as
  | [], _ => rfl
  | a :: r, k => by
    show HandSHeadRun.frNat a _ = _
    rw [HandSHeadRun.frNat_eq]
    exact frA_eq r _
def frK {α : Type} : PySem.W.Frag → (PySem.W.Frag → α) → α
  | [], k => k []
  | p :: r, k => HandSHeadRun.frNat p.1 fun a => frK r fun r => k ((a, p.2) :: r)
theorem frK_eq {α : Type} : ∀ (K : PySem.W.Frag) (k : PySem.W.Frag → α), frK K k = k K
  | [], _ => rfl
  | p :: r, k => by
    show HandSHeadRun.frNat p.1 _ = _
    rw [HandSHeadRun.frNat_eq]
    exact frK_eq r _
def nsG (g : Addr → Option Obj) (d : Addr) (x : Str) : List Addr := match PySem.W.nsIn (frG g [d]) d x with
  | some (some (.ref a)) => [a]
  | _ => []
def codeG (g : Addr → Option Obj) (a : Addr) : List Addr := match g a with
  | some ⟨_, _, .func fd, _⟩ => refV fd.code
  | _ => []
def methG (g : Addr → Option Obj) (d : Addr) (m : Str) : List Addr := (nsG g d m).flatMap fun b => b :: codeG g b
def clsG (g : Addr → Option Obj) (a : Addr) (ms : List Str) : List Addr := match g a with
  | some ⟨_, _, .cls cd, _⟩ => cd.ns :: ms.flatMap fun m => methG g cd.ns m
  | _ => []
def adrG (g : Addr → Option Obj) (gl : List Str) (cl : List (Str × List Str)) : List Addr :=
  mainGlobals :: ((gl.flatMap fun x => methG g mainGlobals x) ++ cl.flatMap fun p => (nsG g mainGlobals p.1).flatMap fun a => a :: clsG g a p.2)
def obsXG (gl : List Str) (cl : List (Str × List Str)) (fa : List Ft) (fn : List DefD) (g : Addr → Option Obj) : AlD := frA (adrG g gl cl) fun as => frK (frG g as) fun K => obsX fa fn K
def hookX (gl : List Str) (cl : List (Str × List Str)) (fa : List Ft) (fn : List DefD) : PySem.W.Hook where
  α := AlD
  obs := fun s => obsXG gl cl fa fn s.heap.get?
  val := fun _ => valD fn
  says := fun _ h => ∃ K : PySem.W.Frag, K.In h ∧ SaysX fa fn K
  of := fun _ _ e => by
    unfold obsXG at e
    rw [frA_eq, frK_eq] at e
    exact ⟨_, frG_in, e⟩
  keeps := fun _ _ _ ⟨K, hK, c⟩ k => ⟨K, PySem.W.Frag.In.keeps hK k, c⟩
theorem obsXG_eq {gl : List Str} {cl : List (Str × List Str)} {fa : List Ft} {fn : List DefD} (s : PySem.W.SharedT) : obsXG gl cl fa fn (HandSHeadRun.getT s) = (hookX gl cl fa fn).obs s.abs := by
  have e : HandSHeadRun.getT s = s.abs.heap.get? := funext (HandSHeadRun.getT_eq s)
  rw [e] <;> rfl
section
variable {fa : List Ft} {fn : List DefD} {K : PySem.W.Frag}
theorem SaysX.fact (c : SaysX fa fn K) (i : Nat) {f : Ft} (h : fa[i]? = some f := by rfl) : f K = true :=
  List.all_eq_true.mp (ba (congrArg (fun z : AlD => z.1) c)).1 f (List.mem_of_getElem? h)
theorem SaysX.def_ (c : SaysX fa fn K) (i : Nat) {d : DefD} (h : fn[i]? = some d := by rfl) : ∃ fd, FunD K d.name d.qual d.params d.body d.scope (d.dvs K) (d.kws K) (fAd K d.at_) fd := by
  have e : fn.map (fun d => fnW K d.at_) = fn.map DefD.val := congrArg (fun z : AlD => z.2) c
  have e2 : (fn.map fun d => fnW K d.at_)[i]? = (fn.map DefD.val)[i]? := by rw [e]
  rw [List.getElem?_map, List.getElem?_map, h] at e2
  exact DefD.funD (Option.some.inj e2) (List.all_eq_true.mp (ba (congrArg (fun z : AlD => z.1) c)).2 d (List.mem_of_getElem? h))
end
/-- a def of the text, of no default -/
theorem fun_of {K : PySem.W.Frag} {x qual : Str} {st : Stmt} {f : Addr} {fd : FuncData} (F : FunD K x qual (defArgs st) (defBody st) (defScope st) [] [] f fd) : Fun K x qual st f fd := by
  obtain ⟨oc, od, dV, kV, doc, pm, an, cdv, ct, osl, e, lk, hc, hd, _⟩ := F.ex
  have : dV = .none := by
    rcases hd with ⟨_, h⟩ | ⟨h, _⟩
    · exact h
    · exact absurd rfl h
  subst this
  exact ⟨⟨oc, od, kV, doc, pm, an, cdv, ct, osl, e, lk, hc⟩, F.kp⟩
/-! ### classes -/
def isB (a b : Option (Option Value)) : Bool := eqO a b
/-- an own exception class -/
def oexB (x : Str) : Ft := fun K => (match K.lookup (ga K x) with
  | some ⟨.type "type", _, .cls cd, sl⟩ => (match cd.mro, sl.toList with
    | .ref C :: bm, [_, _, _, _, some (.builtin n), _] => C == ga K x && (n == "ValueError.__new__" && (!cd.hasDel && (cd.hasDict && PySem.HandSPX.refsVE bm)))
    | _, _ => false)
  | _ => false) && (eqO (PySem.W.findIn K (.ref (ga K x)) "__setattr__") (some (some (.builtin "object.__setattr__"))) && (decide (PySem.W.subIn K (.ref (ga K x)) (.type "BaseException") = some true) && (decide (PySem.W.typeIn K (.ref (ga K x)) = some (.type "type")) && PySem.W.keepIn K (.ref (ga K x)))))
theorem oex_ok {K : PySem.W.Frag} {x : Str} (c : oexB x K = true) : OexC K (ga K x) := by
  obtain ⟨c0, c⟩ := ba c
  obtain ⟨c1, c⟩ := ba c
  obtain ⟨c2, c⟩ := ba c
  obtain ⟨c3, c4⟩ := ba c
  refine ⟨?_, eqO_ok c1, of_decide_eq_true c2, of_decide_eq_true c3, c4⟩
  split at c0
  · rename_i dd cd sl ho
    split at c0
    · rename_i C bm k0 k1 k2 k3 n k5 hm hs
      obtain ⟨e1, c0⟩ := ba c0
      obtain ⟨e2, c0⟩ := ba c0
      obtain ⟨e3, c0⟩ := ba c0
      obtain ⟨e4, e5⟩ := ba c0
      have f1 : C = ga K x := beq_iff_eq.mp e1
      have f2 : n = "ValueError.__new__" := beq_iff_eq.mp e2
      have f3 : cd.hasDel = false := by simpa using e3
      clear e1 e2 e3
      obtain ⟨nm, bs, mro, ns, qn, hd, sn, sub, ab, col, del⟩ := cd
      dsimp only at hm f3 e4
      subst hm f3 e4 f2
      have hsl : sl = #[k0, k1, k2, k3, some (.builtin "ValueError.__new__"), k5] := by
        obtain ⟨l⟩ := sl
        simp only at hs
        rw [hs]
      subst hsl
      rw [f1] at ho
      exact ⟨nm, qn, ns, bs, bm, sn, sub, ab, col, dd, k0, k1, k2, k3, k5, ho, e5⟩
    · cases c0
  · cases c0
/-- what isinstance asks of a class -/
def isaB (x : Str) : Ft := fun K => eqO (PySem.W.findIn K (.ref (ga K x)) "__class__") (some (some (.builtin "object.__class__"))) && (eqO (PySem.W.specialIn K (.builtin "object.__class__") "__get__") (some (some (.builtin "getset_descriptor.__get__"))) && (decide (PySem.W.takesIn K (.builtin "object.__class__") = some true) && decide (PySem.W.mroIn K (ga K x) (.type "object") = some true)))
structure IsaF (K : PySem.W.Frag) (D : Addr) : Prop where
  ha : PySem.W.findIn K (.ref D) "__class__" = some (some (.builtin "object.__class__"))
  hn : PySem.W.specialIn K (.builtin "object.__class__") "__get__" = some (some (.builtin "getset_descriptor.__get__"))
  ht : PySem.W.takesIn K (.builtin "object.__class__") = some true
  hm : PySem.W.mroIn K D (.type "object") = some true
theorem isa_ok {K : PySem.W.Frag} {x : Str} (c : isaB x K = true) : IsaF K (ga K x) := by
  obtain ⟨c1, c⟩ := ba c
  obtain ⟨c2, c⟩ := ba c
  obtain ⟨c3, c4⟩ := ba c
  exact ⟨eqO_ok c1, eqO_ok c2, of_decide_eq_true c3, of_decide_eq_true c4⟩
def xfcB (x : Str) : Ft := fun K => xfB K (ga K x)
theorem xfc_ok {K : PySem.W.Frag} {x : Str} (c : xfcB x K = true) : XfC K (ga K x) := xfB_ok c
theorem exc_ok {K : PySem.W.Frag} {x : Str} (c : xfcB x K = true) (d : isaB x K = true) : ExcC K (ga K x) :=
  have X := xfc_ok c
  have I := isa_ok d
  ⟨X.ga, X.gg, X.exC, X.hdC, I.ha, I.hn, I.ht, I.hm⟩
/-- an own class's __init__ -/
def iniB (x : Str) : Ft := fun K => eqO (PySem.W.findIn K (.ref (ga K x)) "__init__") (some (some (.ref (ma K (ga K x) "__init__")))) && decide (PySem.W.typeIn K (.ref (ma K (ga K x) "__init__")) = some (.type "function"))
theorem ini_ok {K : PySem.W.Frag} {x : Str} (c : iniB x K = true) : PySem.W.findIn K (.ref (ga K x)) "__init__" = some (some (.ref (ma K (ga K x) "__init__"))) ∧ PySem.W.typeIn K (.ref (ma K (ga K x) "__init__")) = some (.type "function") :=
  ⟨eqO_ok (ba c).1, of_decide_eq_true (ba c).2⟩
def noB (x f : Str) : Ft := fun K => eqO (PySem.W.findIn K (.ref (ga K x)) f) (some none)
theorem no_ok {K : PySem.W.Frag} {x f : Str} (c : noB x f K = true) : PySem.W.findIn K (.ref (ga K x)) f = some none := eqO_ok c
def exmB (x y : Str) (b : Bool) : Ft := fun K => decide (PySem.W.exmOne K (.ref (ga K x)) (.ref (ga K y)) = some b)
theorem exm_ok {K : PySem.W.Frag} {x y : Str} {b : Bool} (c : exmB x y b K = true) : PySem.W.exmOne K (.ref (ga K x)) (.ref (ga K y)) = some b := of_decide_eq_true c
def kitB (x y : Str) (b : Bool) : Ft := fun K => decide (PySem.W.kitOne K (.ref (ga K x)) (.ref (ga K y)) = some b)
theorem kit_ok {K : PySem.W.Frag} {x y : Str} {b : Bool} (c : kitB x y b K = true) : PySem.W.kitOne K (.ref (ga K x)) (.ref (ga K y)) = some b := of_decide_eq_true c
def kitV (x : Str) (y : String) (b : Bool) : Ft := fun K => decide (PySem.W.kitOne K (.ref (ga K x)) (.type y) = some b)
theorem kitV_ok {K : PySem.W.Frag} {x : Str} {y : String} {b : Bool} (c : kitV x y b K = true) : PySem.W.kitOne K (.ref (ga K x)) (.type y) = some b := of_decide_eq_true c
def kitT (x : String) (y : Str) (b : Bool) : Ft := fun K => decide (PySem.W.kitOne K (.type x) (.ref (ga K y)) = some b)
theorem kitT_ok {K : PySem.W.Frag} {x : String} {y : Str} {b : Bool} (c : kitT x y b K = true) : PySem.W.kitOne K (.type x) (.ref (ga K y)) = some b := of_decide_eq_true c
def fF (f : Fa) : Ft := fun K => f.ok K
section
variable {K : PySem.W.Frag} {h : Heap} {mg : Str → Option Value}
theorem g_glo (X : K.In h) (G : h.Ns mainGlobals mg) {x : Str} (c : fF (.glo x) K = true) : mg x = some (.ref (ga K x)) := He.glo_ok X G c
theorem g_free (X : K.In h) (G : h.Ns mainGlobals mg) {x : Str} (c : fF (.free x) K = true) : mg x = none := He.free_ok X G c
theorem g_int (X : K.In h) (G : h.Ns mainGlobals mg) {x : Str} {i : Int} (c : fF (.int x i) K = true) : ∃ t, mg x = some (.int i t) := He.int_ok X G c
theorem g_str (X : K.In h) (G : h.Ns mainGlobals mg) {x z : Str} (c : fF (.str x z) K = true) : ∃ t, mg x = some (.str z t) := He.str_ok X G c
theorem g_cls {x : Str} (c : fF (.cls x) K = true) : Cls K (ga K x) := He.cls_ok c
theorem g_meth {x m : Str} (c : fF (.meth x m) K = true) : Meth K (ga K x) m (ma K (ga K x) m) := He.meth_ok c
theorem g_mkr {x : Str} (c : fF (.mkr x) K = true) : Mk K (ga K x) (ma K (ga K x) "__init__") := He.mkr_ok c
theorem g_noat {x f : Str} (c : fF (.noat x f) K = true) : NoAttr K (ga K x) f := He.noat_ok c
end
end HX
/-! what the top has left, told by one run: properties and tables by texts too -/
namespace HX
open PySem PySem.Spec PyProof.Rows L2 He
/-- where a property's getter stands -/
def pa (K : PySem.W.Frag) (x p : Str) : Addr := ((PySem.W.recIn K (ma K (ga K x) p) "property").bind fun l => l.head?.bind fun v => (refV v).head?).getD 0
structure PrD where
  cls : Str
  nm : Str
  qual : Str
  st : Stmt
def prW (K : PySem.W.Frag) (d : PrD) : FnW := (K.lookup (pa K d.cls d.nm)).bind fun o => match o.data with
  | .func q => some (q.name, (q.qualname, (q.params, (q.body, (q.scope, (q.globals, (q.closure, q.builtins)))))))
  | _ => none
def PrD.val (d : PrD) : FnW := some (d.nm, (d.qual, (defArgs d.st, (.stmts (defBody d.st), (defScope d.st, (mainGlobals, ([], builtinsNs)))))))
def isNone : Value → Bool
  | .none => true
  | _ => false
def getB (K : PySem.W.Frag) (f : Addr) (q : Str) : Bool := ((K.lookup f).map fun o => match o.data with
  | .func fd => PySem.W.codeIn K fd.code q && isNone fd.defaults
  | _ => false).getD false
def recB (K : PySem.W.Frag) (b f : Addr) : Bool := ((PySem.W.recIn K b "property").map fun l => match l with
  | .ref g :: _ => decide (g = f)
  | _ => false).getD false
def prB (x p q : Str) : Ft := fun K => eqO (PySem.W.findIn K (.ref (ga K x)) p) (some (some (.ref (ma K (ga K x) p)))) && (eqO (PySem.W.specialIn K (.ref (ma K (ga K x) p)) "__get__") (some (some (.builtin "property.__get__"))) &&
  (decide (PySem.W.takesIn K (.ref (ma K (ga K x) p)) = some true) && (recB K (ma K (ga K x) p) (pa K x p) && (PySem.W.keepIn K (.ref (pa K x p)) && getB K (pa K x p) q))))
theorem prop_of {K : PySem.W.Frag} {x p q : Str} (c : prB x p q K = true) : PropOf K (ga K x) p (ma K (ga K x) p) (pa K x p) := by
  obtain ⟨c1, c⟩ := ba c
  obtain ⟨c2, c⟩ := ba c
  obtain ⟨c3, c⟩ := ba c
  obtain ⟨c4, c⟩ := ba c
  refine ⟨eqO_ok c1, eqO_ok c2, of_decide_eq_true c3, ?_⟩
  unfold recB at c4
  cases e : PySem.W.recIn K (ma K (ga K x) p) "property" with
  | none => rw [e] at c4; cases c4
  | some l =>
    rw [e] at c4
    cases l with
    | nil => cases c4
    | cons v r =>
      cases v with
      | ref g =>
        have : g = pa K x p := of_decide_eq_true c4
        exact ⟨r, by rw [this]⟩
      | _ => cases c4
theorem prop_fun {K : PySem.W.Frag} {d : PrD} (e : prW K d = d.val) (c : prB d.cls d.nm d.qual K = true) : ∃ fd, Fun K d.nm d.qual d.st (pa K d.cls d.nm) fd := by
  obtain ⟨c1, c⟩ := ba c
  obtain ⟨c2, c⟩ := ba c
  obtain ⟨c3, c⟩ := ba c
  obtain ⟨c4, c⟩ := ba c
  obtain ⟨kp, c⟩ := ba c
  unfold prW at e
  unfold getB at c
  cases q : K.lookup (pa K d.cls d.nm) with
  | none => rw [q] at c; cases c
  | some o =>
    obtain ⟨oc, od, dt, osl⟩ := o
    rw [q] at c e
    cases dt with
    | func fd =>
      obtain ⟨n1, n2, n3, n4, n5, n6, n7, n8, n9, n10, n11, n12, n13, n14, n15⟩ := fd
      have e2 : (some (n1, n2, n3, n4, n5, n6, n7, n15) : FnW) = some (d.nm, d.qual, defArgs d.st, .stmts (defBody d.st), defScope d.st, mainGlobals, [], builtinsNs) := e
      simp only [Option.some.injEq, Prod.mk.injEq] at e2
      obtain ⟨h1, h2, h3, h4, h5, h6, h7, h8⟩ := e2
      subst h1 h2 h3 h4 h5 h6 h7 h8
      have c5 : (PySem.W.codeIn K n13 d.qual && isNone n8) = true := c
      obtain ⟨k1, k2⟩ := ba c5
      cases n8 with
      | none => exact ⟨_, ⟨oc, od, n9, n10, n11, n12, n13, n14, osl, rfl, q, k1⟩, kp⟩
      | _ => cases k2
    | _ => cases c
/-! ### the Hook -/
abbrev TbD : Type := Str × List Str
abbrev AlY : Type := AlD × (List FnW × List (Option (List (Option (Str × Int)))))
def obsY (fa : List Ft) (fn : List DefD) (pr : List PrD) (ts : List TbD) (K : PySem.W.Frag) : AlY := (obsX fa fn K, (pr.map (prW K), ts.map fun t => dicW K (ga K t.1)))
def valY (fn : List DefD) (pr : List PrD) (ts : List TbD) (w : World) : AlY := (valD fn, (pr.map PrD.val, ts.map fun t => some (keysIn w.params t.2)))
def SaysY (fa : List Ft) (fn : List DefD) (pr : List PrD) (ts : List TbD) (w : World) (K : PySem.W.Frag) : Prop := obsY fa fn pr ts K = valY fn pr ts w
def propG (g : Addr → Option Obj) (d : Addr) (m : Str) : List Addr := (nsG g d m).flatMap fun b => ((g b).map fun o => match o.data with
  | .fields vs => (vs.toList.head?.map fun v => (refV v).flatMap fun f => f :: codeG g f).getD []
  | _ => []).getD []
def propsG (g : Addr → Option Obj) (a : Addr) (ps : List Str) : List Addr := ((g a).map fun o => match o.data with
  | .cls cd => ps.flatMap fun p => propG g cd.ns p
  | _ => []).getD []
def adrY (g : Addr → Option Obj) (gl : List Str) (cl pl : List (Str × List Str)) : List Addr := adrG g gl cl ++ pl.flatMap fun p => (nsG g mainGlobals p.1).flatMap fun a => propsG g a p.2
def obsYG (gl : List Str) (cl pl : List (Str × List Str)) (fa : List Ft) (fn : List DefD) (pr : List PrD) (ts : List TbD) (g : Addr → Option Obj) : AlY := frA (adrY g gl cl pl) fun as => frK (frG g as) fun K => obsY fa fn pr ts K
def hookY (gl : List Str) (cl pl : List (Str × List Str)) (fa : List Ft) (fn : List DefD) (pr : List PrD) (ts : List TbD) : PySem.W.Hook where
  α := AlY
  obs := fun s => obsYG gl cl pl fa fn pr ts s.heap.get?
  val := fun w => valY fn pr ts w
  says := fun w h => ∃ K : PySem.W.Frag, K.In h ∧ SaysY fa fn pr ts w K
  of := fun _ _ e => by
    unfold obsYG at e
    rw [frA_eq, frK_eq] at e
    exact ⟨_, frG_in, e⟩
  keeps := fun _ _ _ ⟨K, hK, c⟩ k => ⟨K, PySem.W.Frag.In.keeps hK k, c⟩
theorem obsYG_eq {gl : List Str} {cl pl : List (Str × List Str)} {fa : List Ft} {fn : List DefD} {pr : List PrD} {ts : List TbD} (s : PySem.W.SharedT) : obsYG gl cl pl fa fn pr ts (HandSHeadRun.getT s) = (hookY gl cl pl fa fn pr ts).obs s.abs := by
  have e : HandSHeadRun.getT s = s.abs.heap.get? := funext (HandSHeadRun.getT_eq s)
  rw [e] <;> rfl
section
variable {fa : List Ft} {fn : List DefD} {pr : List PrD} {ts : List TbD} {w : World} {K : PySem.W.Frag}
theorem SaysY.x (c : SaysY fa fn pr ts w K) : SaysX fa fn K := congrArg (fun z : AlY => z.1) c
theorem SaysY.prop (c : SaysY fa fn pr ts w K) (i : Nat) {d : PrD} (h : pr[i]? = some d := by rfl) : prW K d = d.val := by
  have e : pr.map (prW K) = pr.map PrD.val := congrArg (fun z : AlY => z.2.1) c
  have e2 : (pr.map (prW K))[i]? = (pr.map PrD.val)[i]? := by rw [e]
  rw [List.getElem?_map, List.getElem?_map, h] at e2
  exact Option.some.inj e2
theorem SaysY.tab (c : SaysY fa fn pr ts w K) (i : Nat) {t : TbD} (h : ts[i]? = some t := by rfl) : ∃ es n, KDict K w (ga K t.1) es n := by
  have e : (ts.map fun t => dicW K (ga K t.1)) = ts.map fun t => some (keysIn w.params t.2) := congrArg (fun z : AlY => z.2.2) c
  have e2 : (ts.map fun t => dicW K (ga K t.1))[i]? = (ts.map fun t => some (keysIn w.params t.2))[i]? := by rw [e]
  rw [List.getElem?_map, List.getElem?_map, h] at e2
  exact dicW_ok (Option.some.inj e2)
/-- a value of a table of the module -/
theorem SaysY.at_ (c : SaysY fa fn pr ts w K) (i : Nat) {t : TbD} {kvs : List (Str × Dv)} (b : valsB K (ga K t.1) kvs = true) {q : Str × Dv} (hq : q ∈ kvs) (h : ts[i]? = some t := by rfl) : KDct K w (ga K t.1) q.1 (q.2.v K) := by
  obtain ⟨es, n, D⟩ := c.tab i h
  obtain ⟨u, h1, h2⟩ := valsB_ok b hq
  exact ⟨es, n, u, D.at_, D.lit, h1, h2⟩
end
end HX
namespace PySem
end PySem
namespace L2
end L2
namespace TL
end TL
namespace HotExc
end HotExc
namespace L2H
end L2H
namespace HotLc
end HotLc
namespace Tw
end Tw
namespace WX
end WX
namespace K01
open PySem PySem.Spec PyProof.Rows L2 TL HotExc L2H HotLc Tw WX
/-! ### what the top has left -/
def pd_0 : HX.PrD := ⟨"Web", "places", "Web.places", (clsS 38 1)⟩
def pd_1 : HX.PrD := ⟨"Web", "ties", "Web.ties", (clsS 38 2)⟩
def pd_2 : HX.PrD := ⟨"Board", "web", "Board.web", (clsS 47 1)⟩
def pd_3 : HX.PrD := ⟨"Board", "signs", "Board.signs", (clsS 47 2)⟩
def dd_0 : He.DefD := ⟨("hand_of", none), "hand_of", "hand_of", defArgs (topS 35), defBody (topS 35), defScope (topS 35), [], []⟩
def dd_1 : He.DefD := ⟨("is_name", none), "is_name", "is_name", defArgs (topS 36), defBody (topS 36), defScope (topS 36), [], []⟩
def dd_2 : He.DefD := ⟨("ordered_pair", none), "ordered_pair", "ordered_pair", defArgs (topS 39), defBody (topS 39), defScope (topS 39), [], []⟩
def dd_3 : He.DefD := ⟨("near_table", none), "near_table", "near_table", defArgs (topS 40), defBody (topS 40), defScope (topS 40), [], []⟩
def dd_4 : He.DefD := ⟨("check_places", none), "check_places", "check_places", defArgs (topS 41), defBody (topS 41), defScope (topS 41), [], []⟩
def dd_5 : He.DefD := ⟨("check_ties", none), "check_ties", "check_ties", defArgs (topS 42), defBody (topS 42), defScope (topS 42), [], []⟩
def dd_6 : He.DefD := ⟨("check_repeats", none), "check_repeats", "check_repeats", defArgs (topS 43), defBody (topS 43), defScope (topS 43), [], []⟩
def dd_7 : He.DefD := ⟨("check_signs", none), "check_signs", "check_signs", defArgs (topS 48), defBody (topS 48), defScope (topS 48), [], []⟩
def dd_8 : He.DefD := ⟨("empty_board", none), "empty_board", "empty_board", defArgs (topS 49), defBody (topS 49), defScope (topS 49), [], []⟩
def dd_9 : He.DefD := ⟨("_law_store", none), "_law_store", "_law_store", defArgs (topS 51), defBody (topS 51), defScope (topS 51), [], []⟩
def dd_10 : He.DefD := ⟨("_law_mixed", none), "_law_mixed", "_law_mixed", defArgs (topS 52), defBody (topS 52), defScope (topS 52), [], []⟩
def dd_11 : He.DefD := ⟨("_law_take", none), "_law_take", "_law_take", defArgs (topS 53), defBody (topS 53), defScope (topS 53), [], []⟩
def dd_12 : He.DefD := ⟨("_law_pick", none), "_law_pick", "_law_pick", defArgs (topS 54), defBody (topS 54), defScope (topS 54), [], []⟩
def dd_13 : He.DefD := ⟨("_law_chance", none), "_law_chance", "_law_chance", defArgs (topS 55), defBody (topS 55), defScope (topS 55), [], []⟩
def dd_14 : He.DefD := ⟨("_law_number", none), "_law_number", "_law_number", defArgs (topS 56), defBody (topS 56), defScope (topS 56), [], []⟩
def dd_15 : He.DefD := ⟨("_law_size", none), "_law_size", "_law_size", defArgs (topS 57), defBody (topS 57), defScope (topS 57), [], []⟩
def dd_16 : He.DefD := ⟨("_law_shuffled", none), "_law_shuffled", "_law_shuffled", defArgs (topS 58), defBody (topS 58), defScope (topS 58), [], []⟩
def dd_17 : He.DefD := ⟨("_law_signs_of_texts", none), "_law_signs_of_texts", "_law_signs_of_texts", defArgs (topS 59), defBody (topS 59), defScope (topS 59), [], []⟩
def dd_18 : He.DefD := ⟨("_law_text", none), "_law_text", "_law_text", defArgs (topS 60), defBody (topS 60), defScope (topS 60), [], []⟩
def dd_19 : He.DefD := ⟨("_law_name", none), "_law_name", "_law_name", defArgs (topS 61), defBody (topS 61), defScope (topS 61), [], []⟩
def dd_20 : He.DefD := ⟨("_law_bad_name", none), "_law_bad_name", "_law_bad_name", defArgs (topS 62), defBody (topS 62), defScope (topS 62), [], []⟩
def dd_21 : He.DefD := ⟨("_law_unlike", none), "_law_unlike", "_law_unlike", defArgs (topS 63), defBody (topS 63), defScope (topS 63), [], []⟩
def dd_22 : He.DefD := ⟨("_law_names", none), "_law_names", "_law_names", defArgs (topS 64), defBody (topS 64), defScope (topS 64), [], []⟩
def dd_23 : He.DefD := ⟨("_law_stranger", none), "_law_stranger", "_law_stranger", defArgs (topS 65), defBody (topS 65), defScope (topS 65), [], []⟩
def dd_24 : He.DefD := ⟨("_law_web_of", none), "_law_web_of", "_law_web_of", defArgs (topS 66), defBody (topS 66), defScope (topS 66), [], []⟩
def dd_25 : He.DefD := ⟨("_law_shape", none), "_law_shape", "_law_shape", defArgs (topS 67), defBody (topS 67), defScope (topS 67), [], []⟩
def dd_26 : He.DefD := ⟨("_law_web_sized", none), "_law_web_sized", "_law_web_sized", defArgs (topS 68), defBody (topS 68), defScope (topS 68), [], []⟩
def dd_27 : He.DefD := ⟨("_law_signs", none), "_law_signs", "_law_signs", defArgs (topS 69), defBody (topS 69), defScope (topS 69), [], []⟩
def dd_28 : He.DefD := ⟨("_law_bad_signs", none), "_law_bad_signs", "_law_bad_signs", defArgs (topS 70), defBody (topS 70), defScope (topS 70), [], []⟩
def dd_29 : He.DefD := ⟨("_law_like", none), "_law_like", "_law_like", defArgs (topS 71), defBody (topS 71), defScope (topS 71), [], []⟩
def dd_30 : He.DefD := ⟨("_law_kinds", none), "_law_kinds", "_law_kinds", defArgs (topS 72), defBody (topS 72), defScope (topS 72), [], []⟩
def dd_31 : He.DefD := ⟨("_law_due", none), "_law_due", "_law_due", defArgs (topS 73), defBody (topS 73), defScope (topS 73), [], []⟩
def dd_32 : He.DefD := ⟨("_law_odd", none), "_law_odd", "_law_odd", defArgs (topS 74), defBody (topS 74), defScope (topS 74), [], []⟩
def dd_33 : He.DefD := ⟨("_law_departs", none), "_law_departs", "_law_departs", defArgs (topS 75), defBody (topS 75), defScope (topS 75), [], []⟩
def dd_34 : He.DefD := ⟨("_law_told_board", none), "_law_told_board", "_law_told_board", defArgs (topS 76), defBody (topS 76), defScope (topS 76), [], []⟩
def dd_35 : He.DefD := ⟨("_law_told_sign", none), "_law_told_sign", "_law_told_sign", defArgs (topS 77), defBody (topS 77), defScope (topS 77), [], []⟩
def dd_36 : He.DefD := ⟨("_law_told_hand", none), "_law_told_hand", "_law_told_hand", defArgs (topS 78), defBody (topS 78), defScope (topS 78), [], []⟩
def dd_37 : He.DefD := ⟨("_law_told_put", none), "_law_told_put", "_law_told_put", defArgs (topS 79), defBody (topS 79), defScope (topS 79), [], []⟩
def dd_38 : He.DefD := ⟨("_law_shows", none), "_law_shows", "_law_shows", defArgs (topS 80), defBody (topS 80), defScope (topS 80), [], []⟩
def dd_39 : He.DefD := ⟨("_law_put_good", none), "_law_put_good", "_law_put_good", defArgs (topS 81), defBody (topS 81), defScope (topS 81), [], []⟩
def dd_40 : He.DefD := ⟨("_law_odd_good", none), "_law_odd_good", "_law_odd_good", defArgs (topS 82), defBody (topS 82), defScope (topS 82), [], []⟩
def dd_41 : He.DefD := ⟨("law", none), "law", "law", defArgs (topS 83), defBody (topS 83), defScope (topS 83), [], []⟩
def dd_42 : He.DefD := ⟨("NoPlace", some "__init__"), "__init__", "NoPlace.__init__", defArgs (clsS 8 0), defBody (clsS 8 0), defScope (clsS 8 0), [], []⟩
def dd_43 : He.DefD := ⟨("BadSigns", some "__init__"), "__init__", "BadSigns.__init__", defArgs (clsS 11 0), defBody (clsS 11 0), defScope (clsS 11 0), [], []⟩
def dd_44 : He.DefD := ⟨("Web", some "__init__"), "__init__", "Web.__init__", defArgs (clsS 38 0), defBody (clsS 38 0), defScope (clsS 38 0), [], []⟩
def dd_45 : He.DefD := ⟨("Web", some "__len__"), "__len__", "Web.__len__", defArgs (clsS 38 14), defBody (clsS 38 14), defScope (clsS 38 14), [], []⟩
def dd_46 : He.DefD := ⟨("Web", some "__iter__"), "__iter__", "Web.__iter__", defArgs (clsS 38 15), defBody (clsS 38 15), defScope (clsS 38 15), [], []⟩
def dd_47 : He.DefD := ⟨("Web", some "__eq__"), "__eq__", "Web.__eq__", defArgs (clsS 38 17), defBody (clsS 38 17), defScope (clsS 38 17), [], []⟩
def dd_48 : He.DefD := ⟨("Board", some "__init__"), "__init__", "Board.__init__", defArgs (clsS 47 0), defBody (clsS 47 0), defScope (clsS 47 0), [], []⟩
def dd_49 : He.DefD := ⟨("Board", some "__eq__"), "__eq__", "Board.__eq__", defArgs (clsS 47 7), defBody (clsS 47 7), defScope (clsS 47 7), [], []⟩
def dd_50 : He.DefD := ⟨("Board", some "sign"), "sign", "Board.sign", defArgs (clsS 47 3), defBody (clsS 47 3), defScope (clsS 47 3), [], []⟩
def dd_51 : He.DefD := ⟨("Board", some "hand_at"), "hand_at", "Board.hand_at", defArgs (clsS 47 4), defBody (clsS 47 4), defScope (clsS 47 4), [], []⟩
def dd_52 : He.DefD := ⟨("Board", some "put"), "put", "Board.put", defArgs (clsS 47 6), defBody (clsS 47 6), defScope (clsS 47 6), [], []⟩
def dd_53 : He.DefD := ⟨("Board", some "bearing"), "bearing", "Board.bearing", defArgs (clsS 47 5), defBody (clsS 47 5), defScope (clsS 47 5), [], []⟩
def fnL : List He.DefD := [dd_0, dd_1, dd_2, dd_3, dd_4, dd_5, dd_6, dd_7, dd_8, dd_9, dd_10, dd_11, dd_12, dd_13, dd_14, dd_15, dd_16, dd_17, dd_18, dd_19, dd_20, dd_21, dd_22, dd_23, dd_24, dd_25, dd_26, dd_27, dd_28, dd_29] ++ [dd_30, dd_31, dd_32, dd_33, dd_34, dd_35, dd_36, dd_37, dd_38, dd_39, dd_40, dd_41, dd_42, dd_43, dd_44, dd_45, dd_46, dd_47, dd_48, dd_49, dd_50, dd_51, dd_52, dd_53]
def faL : List HX.Ft := ([HX.fF (.glo "hand_of"), HX.fF (.glo "is_name"), HX.fF (.glo "ordered_pair"), HX.fF (.glo "near_table"), HX.fF (.glo "check_places"), HX.fF (.glo "check_ties"), HX.fF (.glo "check_repeats"), HX.fF (.glo "check_signs"), HX.fF (.glo "empty_board"), HX.fF (.glo "_law_store"), HX.fF (.glo "_law_mixed"), HX.fF (.glo "_law_take"), HX.fF (.glo "_law_pick"), HX.fF (.glo "_law_chance"), HX.fF (.glo "_law_number"), HX.fF (.glo "_law_size"), HX.fF (.glo "_law_shuffled"), HX.fF (.glo "_law_signs_of_texts"), HX.fF (.glo "_law_text"), HX.fF (.glo "_law_name"), HX.fF (.glo "_law_bad_name"), HX.fF (.glo "_law_unlike"), HX.fF (.glo "_law_names"), HX.fF (.glo "_law_stranger"), HX.fF (.glo "_law_web_of"), HX.fF (.glo "_law_shape"), HX.fF (.glo "_law_web_sized"), HX.fF (.glo "_law_signs"), HX.fF (.glo "_law_bad_signs"), HX.fF (.glo "_law_like")] : List HX.Ft) ++ ([HX.fF (.glo "_law_kinds"), HX.fF (.glo "_law_due"), HX.fF (.glo "_law_odd"), HX.fF (.glo "_law_departs"), HX.fF (.glo "_law_told_board"), HX.fF (.glo "_law_told_sign"), HX.fF (.glo "_law_told_hand"), HX.fF (.glo "_law_told_put"), HX.fF (.glo "_law_shows"), HX.fF (.glo "_law_put_good"), HX.fF (.glo "_law_odd_good"), HX.fF (.glo "law"), HX.prB "Web" "places" "Web.places", HX.prB "Web" "ties" "Web.ties", HX.prB "Board" "web" "Board.web", HX.prB "Board" "signs" "Board.signs", HX.fF (.glo "HAND_OF_SIGN"), (fun K => He.valsB K (He.ga K "HAND_OF_SIGN") [("d", He.Dv.str "dark"), ("l", He.Dv.str "light")]), HX.fF (.glo "SIGNS"), (fun K => He.tupB K "SIGNS" [He.Dv.str ".", He.Dv.str "d", He.Dv.str "l"]), HX.fF (.free "len"), HX.fF (.free "range"), HX.fF (.free "abs"), HX.fF (.free "ord"), HX.fF (.free "min"), HX.fF (.free "max"), HX.fF (.free "all"), HX.fF (.free "isinstance"), HX.fF (.free "int"), HX.fF (.free "str")] : List HX.Ft) ++ ([HX.fF (.free "bool"), HX.fF (.free "list"), HX.fF (.free "tuple"), HX.fF (.free "dict"), HX.fF (.free "sorted"), HX.fF (.free "set"), HX.fF (.free "any"), HX.fF (.free "ValueError"), HX.fF (.free "zip"), HX.fF (.free "iter"), HX.fF (.free "enumerate"), HX.fF (.str "LETTERS" "abcdefghijklmnopqrstuvwxyz"), HX.fF (.str "DIGITS" "0123456789"), HX.fF (.int "LONGEST_NAME" 6), HX.fF (.int "MOST_PLACES" 20), HX.fF (.int "MOST_TIES" 60), HX.fF (.str "FREE" "."), HX.oexB "NoPlace", HX.iniB "NoPlace", HX.fF (.glo "NoPlace"), HX.xfcB "NoPlace", HX.isaB "NoPlace", HX.exmB "NoPlace" "NoPlace" true, HX.noB "NoPlace" "place", HX.fF (.glo "TworoomsError"), HX.kitB "NoPlace" "TworoomsError" true, HX.fF (.glo "BadNumber"), HX.kitB "NoPlace" "BadNumber" false, HX.fF (.glo "NoHand"), HX.kitB "NoPlace" "NoHand" false] : List HX.Ft) ++ ([HX.fF (.glo "BadName"), HX.kitB "NoPlace" "BadName" false, HX.fF (.glo "TooMany"), HX.kitB "NoPlace" "TooMany" false, HX.fF (.glo "NoEntry"), HX.kitB "NoPlace" "NoEntry" false, HX.kitB "NoPlace" "NoPlace" true, HX.fF (.glo "SelfTie"), HX.kitB "NoPlace" "SelfTie" false, HX.fF (.glo "Repeated"), HX.kitB "NoPlace" "Repeated" false, HX.fF (.glo "BadSigns"), HX.kitB "NoPlace" "BadSigns" false, HX.fF (.glo "BadText"), HX.kitB "NoPlace" "BadText" false, HX.fF (.glo "BadTree"), HX.kitB "NoPlace" "BadTree" false, HX.fF (.glo "BadMap"), HX.kitB "NoPlace" "BadMap" false, HX.fF (.glo "NotRight"), HX.kitB "NoPlace" "NotRight" false, HX.fF (.glo "NoStone"), HX.kitB "NoPlace" "NoStone" false, HX.fF (.glo "Stands"), HX.kitB "NoPlace" "Stands" false, HX.fF (.glo "Falls"), HX.kitB "NoPlace" "Falls" false, HX.fF (.glo "GameOver"), HX.kitB "NoPlace" "GameOver" false, HX.fF (.glo "Occupied")] : List HX.Ft) ++ ([HX.kitB "NoPlace" "Occupied" false, HX.fF (.glo "SelfTaking"), HX.kitB "NoPlace" "SelfTaking" false, HX.fF (.glo "ComesBack"), HX.kitB "NoPlace" "ComesBack" false, HX.fF (.glo "BadDeed"), HX.kitB "NoPlace" "BadDeed" false, HX.fF (.glo "NothingDone"), HX.kitB "NoPlace" "NothingDone" false, HX.fF (.glo "BadRow"), HX.kitB "NoPlace" "BadRow" false, HX.kitV "NoPlace" "ValueError" true, HX.oexB "BadSigns", HX.iniB "BadSigns", HX.xfcB "BadSigns", HX.isaB "BadSigns", HX.exmB "BadSigns" "BadSigns" true, HX.noB "BadSigns" "at", HX.exmB "BadSigns" "NoPlace" false, HX.kitB "BadSigns" "TworoomsError" true, HX.kitB "BadSigns" "BadNumber" false, HX.kitB "BadSigns" "NoHand" false, HX.kitB "BadSigns" "BadName" false, HX.kitB "BadSigns" "TooMany" false, HX.kitB "BadSigns" "NoEntry" false, HX.kitB "BadSigns" "NoPlace" false, HX.kitB "BadSigns" "SelfTie" false, HX.kitB "BadSigns" "Repeated" false, HX.kitB "BadSigns" "BadSigns" true, HX.kitB "BadSigns" "BadText" false] : List HX.Ft) ++ ([HX.kitB "BadSigns" "BadTree" false, HX.kitB "BadSigns" "BadMap" false, HX.kitB "BadSigns" "NotRight" false, HX.kitB "BadSigns" "NoStone" false, HX.kitB "BadSigns" "Stands" false, HX.kitB "BadSigns" "Falls" false, HX.kitB "BadSigns" "GameOver" false, HX.kitB "BadSigns" "Occupied" false, HX.kitB "BadSigns" "SelfTaking" false, HX.kitB "BadSigns" "ComesBack" false, HX.kitB "BadSigns" "BadDeed" false, HX.kitB "BadSigns" "NothingDone" false, HX.kitB "BadSigns" "BadRow" false, HX.kitV "BadSigns" "ValueError" true, HX.fF (.glo "Web"), HX.fF (.cls "Web"), HX.fF (.mkr "Web"), HX.fF (.noat "Web" "_places"), HX.fF (.noat "Web" "_ties"), HX.fF (.noat "Web" "_near"), HX.fF (.meth "Web" "__len__"), HX.fF (.meth "Web" "__iter__"), HX.fF (.meth "Web" "__eq__"), HX.isaB "Web", HX.fF (.glo "Board"), HX.fF (.cls "Board"), HX.fF (.mkr "Board"), HX.fF (.noat "Board" "_web"), HX.fF (.noat "Board" "_signs"), HX.fF (.noat "Board" "_sign_at")] : List HX.Ft) ++ ([HX.fF (.meth "Board" "sign"), HX.fF (.meth "Board" "hand_at"), HX.fF (.meth "Board" "put"), HX.fF (.meth "Board" "bearing"), HX.fF (.meth "Board" "__eq__"), HX.isaB "Board", (fun K => !(He.ga K "HAND_OF_SIGN" == sysModules)), (fun K => He.eqO (PySem.W.nsIn K (He.ga K "HAND_OF_SIGN") (Str.ofString ".")) (some none)), HX.kitT "str" "Board" false, HX.kitT "int" "Board" false, HX.kitB "Web" "Board" false, (fun K => PySem.W.notFirst K (He.ga K "Web") (.ref (He.ga K "Web"))), (fun K => PySem.W.notFirst K (He.ga K "Board") (.ref (He.ga K "Board"))), (fun K => He.eqO (PySem.W.findIn K (.ref (He.ga K "Web")) "__ne__") (some (some (.builtin "object.__ne__")))), (fun K => decide (PySem.W.subIn K (.ref (He.ga K "Web")) (.type "object") = some true)), (fun K => PySem.W.notFirst K (He.ga K "Web") (.type "str")), (fun K => PySem.W.notFirst K (He.ga K "Web") (.type "int")), (fun K => He.eqO (PySem.W.findIn K (.ref (He.ga K "Board")) "__ne__") (some (some (.builtin "object.__ne__")))), (fun K => decide (PySem.W.subIn K (.ref (He.ga K "Board")) (.type "object") = some true)), (fun K => PySem.W.notFirst K (He.ga K "Board") (.type "str")), (fun K => PySem.W.notFirst K (He.ga K "Board") (.type "int"))] : List HX.Ft)
def prL : List HX.PrD := [pd_0, pd_1, pd_2, pd_3]
def tsL : List HX.TbD := [("HAND_OF_SIGN", ["d", "l"])]
abbrev RR : PySem.W.OpenRow := PySem.W.OpenLaw.row PySem.Challenge.rw_tworooms_k07_boards_are_made
def otherNames : List Str := (["_wall", "TworoomsError", "BadNumber", "NoHand", "BadName", "TooMany", "NoEntry", "NoPlace", "SelfTie", "Repeated", "BadSigns", "BadText", "BadTree", "BadMap", "NotRight", "NoStone", "Stands", "Falls", "GameOver", "Occupied", "SelfTaking", "ComesBack", "BadDeed", "NothingDone", "BadRow", "FREE", "MOST_PLACES", "MOST_TIES", "SIGNS", "HAND_OF_SIGN"] : List Str) ++ (["LETTERS", "DIGITS", "LONGEST_NAME", "hand_of", "is_name", "Web", "ordered_pair", "near_table", "check_places", "check_ties", "check_repeats", "write_tie", "MIRRORED", "Board", "check_signs", "empty_board", "_law_store", "_law_mixed", "_law_take", "_law_pick", "_law_chance", "_law_number", "_law_size", "_law_shuffled", "_law_signs_of_texts", "_law_text", "_law_name", "_law_bad_name", "_law_unlike", "_law_names"] : List Str) ++ (["_law_stranger", "_law_web_of", "_law_shape", "_law_web_sized", "_law_signs", "_law_bad_signs", "_law_like", "_law_kinds", "_law_due", "_law_odd", "_law_departs", "_law_told_board", "_law_told_sign", "_law_told_hand", "_law_told_put", "_law_shows", "_law_put_good", "_law_odd_good"] : List Str)
def glL : List Str := (["hand_of", "is_name", "ordered_pair", "near_table", "check_places", "check_ties", "check_repeats", "check_signs", "empty_board", "_law_store", "_law_mixed", "_law_take", "_law_pick", "_law_chance", "_law_number", "_law_size", "_law_shuffled", "_law_signs_of_texts", "_law_text", "_law_name", "_law_bad_name", "_law_unlike", "_law_names", "_law_stranger", "_law_web_of", "_law_shape", "_law_web_sized", "_law_signs", "_law_bad_signs", "_law_like"] : List Str) ++ (["_law_kinds", "_law_due", "_law_odd", "_law_departs", "_law_told_board", "_law_told_sign", "_law_told_hand", "_law_told_put", "_law_shows", "_law_put_good", "_law_odd_good", "law", "HAND_OF_SIGN", "SIGNS"] : List Str)
def clL : List (Str × List Str) := [("TworoomsError", []), ("BadNumber", []), ("NoHand", []), ("BadName", []), ("TooMany", []), ("NoEntry", []), ("NoPlace", ["__init__"]), ("SelfTie", []), ("Repeated", []), ("BadSigns", ["__init__"]), ("BadText", []), ("BadTree", []), ("BadMap", []), ("NotRight", []), ("NoStone", []), ("Stands", []), ("Falls", []), ("GameOver", []), ("Occupied", []), ("SelfTaking", []), ("ComesBack", []), ("BadDeed", []), ("NothingDone", []), ("BadRow", []), ("Web", ["__init__", "__len__", "__iter__", "__eq__", "places", "ties"]), ("Board", ["__init__", "__eq__", "sign", "hand_at", "put", "bearing", "web", "signs"])]
def plL : List (Str × List Str) := [("Web", ["places", "ties"]), ("Board", ["web", "signs"])]
def obL (s : PySem.W.SharedT) : HX.AlY := HX.obsYG glL clL plL faL fnL prL tsL (HandSHeadRun.getT s)
theorem ob_eq (s : PySem.W.SharedT) : obL s = (HX.hookY glL clL plL faL fnL prL tsL).obs s.abs := HX.obsYG_eq s
end K01
namespace K01
open PySem PySem.Spec PyProof.Rows L2 TL HotExc L2H HotLc Tw WX
def setB (w : World) (b : Bool) : World := { w with params := { w.params with followText := fun s => bif s == "special-get-raises" then b else w.params.followText s } }
theorem setB_self (w : World) : setB w (w.params.followText "special-get-raises") = w := by
  have e : (fun s => bif s == "special-get-raises" then w.params.followText "special-get-raises" else w.params.followText s) = w.params.followText := by
    funext s
    cases h : s == "special-get-raises" with
    | true =>
      have : s = "special-get-raises" := beq_iff_eq.mp h
      rw [this]
      rfl
    | false => rfl
  unfold setB
  rw [e]
set_option maxHeartbeats 0 in
theorem run_t (w : World) : HandSHeadRun.RunEq RR (PySem.W.view RR.prog [83]) (HX.hookY glL clL plL faL fnL prL tsL) obL 20000 otherNames (setB w true) := by
  intro os
  kernel_rfl
set_option maxHeartbeats 0 in
theorem run_f (w : World) : HandSHeadRun.RunEq RR (PySem.W.view RR.prog [83]) (HX.hookY glL clL plL faL fnL prL tsL) obL 20000 otherNames (setB w false) := by
  intro os
  kernel_rfl
theorem run_eq (w : World) : HandSHeadRun.RunEq RR (PySem.W.view RR.prog [83]) (HX.hookY glL clL plL faL fnL prL tsL) obL 20000 otherNames w := by
  have e := setB_self w
  cases h : w.params.followText "special-get-raises" with
  | true =>
    rw [h] at e
    exact e ▸ run_t w
  | false =>
    rw [h] at e
    exact e ▸ run_f w
end K01
namespace K01
open PySem PySem.W PySem.Calls PyProof.Rows
abbrev QQ : Program := view RR.prog [83]
abbrev DD : DefRec := HandSHeadRun.topDef RR.prog 83
set_option maxHeartbeats 0 in
theorem he_open : opening RR.prog = plainProg RR.prog.main.scope.names := by kernel_rfl
set_option maxHeartbeats 0 in
theorem he_fence (s : Shared) : fenceModules? RR.prog s = some s := by kernel_rfl
set_option maxHeartbeats 0 in
theorem he_def : defOf QQ RR.name = some (DD, []) := by kernel_rfl
set_option maxHeartbeats 0 in
theorem he_the : RR.prog.theDef RR.name = some (DD.params, DD.body, DD.scope) := by kernel_rfl
set_option maxHeartbeats 0 in
theorem he_kw : kwWritten? DD.params.kwonlyargs DD.params.kw_defaults = some [] := by kernel_rfl
set_option maxHeartbeats 0 in
theorem he_wr : (!RR.writes || RR.records.isEmpty) = true := by rfl
set_option maxHeartbeats 0 in
theorem he_said : RR.wellSaid = true := by decide +kernel
set_option maxHeartbeats 0 in
theorem he_ok : (chainsOk QQ && opensWell RR.prog && (frees RR.toRowW && RR.within.isEmpty)) = true := by decide +kernel
set_option maxHeartbeats 0 in
theorem he_bare : RR.prog.bare := ⟨rfl, rfl, rfl, rfl, rfl, by decide +kernel⟩
set_option maxHeartbeats 0 in
theorem he_name : DD.name = ("law" : PySem.Str) := by kernel_rfl
set_option maxHeartbeats 0 in
theorem he_nodef : DD.params.defaults = [] := by kernel_rfl
end K01
namespace K01
open PySem PySem.Spec PyProof.Rows L2
def rAllK (K : PySem.W.Frag) (vs : List V) (H : Hp) (Q : VK) : Prop := ∃ a, vs = [V.ref a] ∧ ∃ bs : List Bool, SqL K H a (bs.map V.bl) ∧ Q (.bl (bs.all id)) H
theorem call_allK {X : Cx} {K : PySem.W.Frag} (h : X.K = K := by rfl) (hc : X.calm = true := by rfl) : CallR X (.builtin "all") (rAllK K) := callR_mono (h ▸ cr_all hc) fun _ _ _ ⟨a, e, bs, h1, q⟩ => ⟨a, bs, e, h1, q⟩
theorem opR_mono {X : Cx} {f : Value → Value → Sem Value} {r r' : R2} (h : OpR X f r) (k : ∀ x y H Q, r' x y H Q → r x y H Q) : OpR X f r' := fun pins s σ H x y v u Q I rx ry q => h pins s σ H x y v u Q I rx ry (k _ _ _ _ q)
def rInSg (x y : V) (H : Hp) (Q : VK) : Prop := ∃ c : Nat, x = .str ⟨#[c]⟩ ∧ ∃ z : Str, y = .str z ∧ Q (.bl (decide (c ∈ z.cps.toList))) H
theorem op_inSg {X : Cx} : OpR X (compareOp .In) rInSg := opR_mono op_in_sign fun _ _ _ _ ⟨c, e, z, e2, q⟩ => ⟨c, z, e, e2, q⟩
def rNinSg (x y : V) (H : Hp) (Q : VK) : Prop := ∃ c : Nat, x = .str ⟨#[c]⟩ ∧ ∃ z : Str, y = .str z ∧ Q (.bl (!decide (c ∈ z.cps.toList))) H
theorem op_ninSg {X : Cx} : OpR X (compareOp .NotIn) rNinSg := opR_mono op_notIn_sign fun _ _ _ _ ⟨c, e, z, e2, q⟩ => ⟨c, z, e, e2, q⟩
theorem sgn_inj {a b : Nat} : ((⟨#[a]⟩ : Str) = ⟨#[b]⟩) = (a = b) := propext ⟨fun h => by
  have e := congrArg (fun z : Str => z.cps.toList) h
  simpa using e, fun h => by rw [h]⟩
def rAddS (x y : V) (H : Hp) (Q : VK) : Prop := ∃ i, x = .str i ∧ ∃ j, y = .str j ∧ i.length + j.length ≤ sizeLine ∧ Q (.str (i ++ j)) H
theorem op_addS {X : Cx} : OpR X (binaryOp .Add) rAddS := opR_mono op_add_str fun _ _ _ _ ⟨i, e, j, e2, h, q⟩ => ⟨i, j, e, e2, h, q⟩
def rInSt (x y : V) (H : Hp) (Q : VK) : Prop := ∃ i, x = .str i ∧ ∃ j, y = .str j ∧ Q (.bl (!(Builtin.Str.occurrences j i 0 j.length 1).isEmpty)) H
theorem op_inSt {X : Cx} : OpR X (compareOp .In) rInSt := opR_mono op_in_str fun _ _ _ _ ⟨i, e, j, e2, q⟩ => ⟨i, j, e, e2, q⟩
end K01
namespace K01
open PySem PySem.Spec PyProof.Rows L2
/-! ### where a token is out -/
theorem okT {P : Program} {w : World} {K : PySem.W.Frag} {mg : Str → Option Value} {base : Heap} {x qual : Str} {st : Stmt} {f : Addr} {fd : FuncData} {N ps : List Str} {k : Nat} {sp : Sp} (F : Fun K x qual st f fd) (S : FnScope N ps (defScope st))
    (nc : ∀ y ∈ (defScope st).names, y.2 ≠ .cell) (one : 1 ≤ ps.length) (ln : ∀ vs H Q E, sp vs H Q E → vs.length = ps.length)
    (body : ∀ (cv : Value) (A : Around) (ou : List Env) (s : Shared) (H : Hp) (vs : List V) (Q : VK) (E : XK), Room k (A.deeper (envOfC qual (defScope st) s.heap.objs.size f cv)) → sp vs H Q E →
      ∃ t, PSsT (cxOf CX0 P w K mg base N qual (defScope st) f cv A ou s H E) (defBody st) t ∧ t { nx := fun _ H' => Q .non H', rt := Q } (L2.start N vs) H) : FnOk P w K mg base CX0 (k + 1) f fd ps sp := by
  obtain ⟨oc, od, kV, doc, pm, an, cv, ct, osl, e, lk, hcd⟩ := F.ex
  subst e
  exact fn_ofT lk hcd S nc one ln fun A ou s H vs Q E hr hs => body cv A ou s H vs Q E hr hs
section
variable {X : Cx}
structure PA1 (X : Cx) (es : List Expr) (t : TA) : Prop where
  go : ∀ (ps : Pos) (pn : List (Addr × Obj)) (s : Shared) (σ : L2.St) (H : Hp) (Q : List V → Hp → Prop), Inv X pn σ H s → t σ H Q →
    wpAny (model X.prog X.w) X.A (spliced (backTo ps (starEach es X.env))) (fun us s' => 1 ≤ s'.toks ∧ AP X pn σ Q us s') X.xe s
theorem pa1_int {i : Int} {j : Nat} {ps : Pos} (hs : starEach [.Constant (.int i) j ps] X.env = [(false, eval (.Constant (.int i) j ps) X.env)] := by rfl) : PA1 X [.Constant (.int i) j ps] (tCons (tC (.int i)) tNil) := by
  refine ⟨fun p0 pn s σ H Q J h => ?_⟩
  rw [hs]
  refine Calls.spliced_cons (wpAny_Constant_int (pos := ps) (k := j) ?_)
  refine Calls.spliced_nil ?_
  exact ⟨by show 1 ≤ s.toks + 1; omega, [.int i], H, J.tok _, .cons ⟨_, rfl⟩ .nil, h⟩
theorem pa1_cons {e : Expr} {es : List Expr} {te : TE} {t : TA} (ha : PE X e te) (hr : PA1 X es t) (hs : starEach (e :: es) X.env = (false, eval e X.env) :: starEach es X.env := by rfl) : PA1 X (e :: es) (tCons te t) := by
  refine ⟨fun p0 pn s σ H Q J h => ?_⟩
  rw [hs]
  refine Calls.spliced_cons (thn (ha.run pn s σ H _ J h) fun u s1 g => ?_)
  obtain ⟨x, H1, J1, rx, q⟩ := g
  refine thn (hr.go p0 pn s1 σ H1 _ J1 q) fun us s2 g => ?_
  obtain ⟨ht, xs, H2, J2, r2, q2⟩ := g
  exact ⟨ht, x :: xs, H2, J2, .cons rx r2, q2⟩
structure PS1 (X : Cx) (st : Stmt) (t : TS) : Prop where
  go : ∀ (pn : List (Addr × Obj)) (s : Shared) (σ : L2.St) (H : Hp) (D : Ends), Inv X pn σ H s → t D σ H → wpAny (model X.prog X.w) X.A (exec st X.env) (fun fl s' => 1 ≤ s'.toks ∧ SP X pn D fl s') X.xe s
theorem ps1_call {CX : CXT} {k i : Nat} {f : Addr} {fd : FuncData} {ps : List Str} {sp : Sp} {dvs : List V} {ds : List Value} {E : XK} {x y : Str} {p p2 pos pos2 : Pos} {e : Expr} {es : List Expr} {t : TA}
    (hN : X.N.Nodup) (hi : X.N[i]? = some y) (hy : Loc X.env.scope y) (F : FnOk X.prog X.w X.K X.mg X.base CX k f fd ps sp) (hr : Room k X.A) (hg : Gl X x) (hm : X.mg x = some (.ref f)) (hk : PySem.W.keepIn X.K (.ref f) = true) (hb : Binds X.K fd ps ds) (hd : Vals dvs ds) (hx : Passes CX X E)
    (ha : PA1 X (e :: es) t) (hdb : (x == ("__debug__" : Str)) = false := by decide) (he : starEach (e :: es) X.env = (false, eval e X.env) :: starEach es X.env := by rfl) (hpl : (backTo pos (starEach es X.env)).any (·.1) = false := by rfl)
    (hs : swapsWith (.Call (.Name x p) (e :: es) [] pos) (some (.Name y p2)) pos2.line X.env = pure false := by rfl) (hf : X.fn y = true ∨ X.env.scope.names.lookup y = some .local := by first | exact .inl rfl | exact .inr rfl | assumption) :
    PS1 X (.Assign [.Name y p2] (.Call (.Name x p) (e :: es) [] pos) pos2) (tAsg (tCall sp dvs E t) (gName i)) := by
  refine ⟨fun pn s σ H D J h => ?_⟩
  refine wpAny_Assign_Name (Q := fun fl s' => 1 ≤ s'.toks ∧ SP X pn D fl s') (wpAny_mono (Q := fun v s2 => 1 ≤ s2.toks ∧ EP X pn σ (fun v H1 => D.nx (σ.set i (some v)) H1) v s2) (wpAny_Call_Name_kw (ld_glob J hg hm ?_ hdb)) (fun v s2 g => ?_) fun _ _ z => z) hs
  · refine PySem.W.callWith_K (h₀ := X.base) J.ok.mod.kin hk (thn (ha.go pos pn s σ H _ J h) fun us s1 g => ?_) he hpl
    obtain ⟨ht, vs, H1, J1, r, q⟩ := g
    exact ⟨J1.kIn, wpAny_mono (wpAny_toks_of ht (run_fn F hr hb hd hx J1 r q)) (fun _ _ z => z) fun _ _ z => z.2⟩
  · obtain ⟨ht, v', H1, J1, rv, q⟩ := g
    exact wpAny_mono (wpAny_toks_of ht (store_ok J1 hN hi hy rv (fun s3 J3 => (⟨_, H1, J3, q⟩ : SP X pn D .next s3)) hf)) (fun _ _ z => z) fun _ _ z => z.2
/-- the first statement gives out a token -/
theorem pss_tok {st : Stmt} {rest : List Stmt} {t u : TS} (h1 : PS1 X st t) (h2 : PSsT X rest u) : PSs X (st :: rest) (tSeq t u) := by
  refine ⟨fun pn s σ H D J h => ?_⟩
  refine wpAny_execs_cons (thn (h1.go pn s σ H { D with nx := u D } J h) fun fl s1 g => ?_)
  obtain ⟨ht, g⟩ := g
  cases fl with
  | ret v => exact g
  | brk => exact g
  | cont => exact g
  | next =>
    obtain ⟨σ1, H1, J1, g⟩ := g
    exact h2 pn s1 σ1 H1 D ht J1 g
theorem pst_setE {i : Nat} {x : Str} {e : Expr} {te : TE} {p2 pos : Pos} (hN : X.N.Nodup) (hi : X.N[i]? = some x) (hx : Loc X.env.scope x) (he : PET X e te) (hs : swapsWith e (some (.Name x p2)) pos.line X.env = pure false := by rfl)
    (hf : X.fn x = true ∨ X.env.scope.names.lookup x = some .local := by first | exact .inl rfl | exact .inr rfl | assumption) : PST X (.Assign [.Name x p2] e pos) (tAsg te (gName i)) := by
  intro pn s σ H D h0 J h
  refine wpAny_Assign_Name (thn (he pn s σ H _ h0 J h) fun v s1 g => ?_) hs
  obtain ⟨y, H1, J1, r1, q1⟩ := g
  exact store_ok J1 hN hi hx r1 (fun s2 J2 => ⟨_, H1, J2, q1⟩) hf
/-- a word between an if and what follows, a token out -/
theorem psst_cut {st : Stmt} {rest : List Stmt} {t u : TS} (h1 : PST X st t) (h2 : PSsT X rest u) : PSsT X (st :: rest) (C8.tCut t u) := by
  intro pn s σ H D h0 J h
  obtain ⟨M, hm, hu⟩ := h
  refine wpAny_execs_cons (wpAny_mono (PySem.wpAny_toks (h1 pn s σ H { D with nx := M } h0 J hm)) (fun fl s1 g => ?_) fun _ _ z => z.2)
  obtain ⟨hk, g⟩ := g
  cases fl with
  | ret v => exact g
  | brk => exact g
  | cont => exact g
  | next =>
    obtain ⟨σ1, H1, J1, g⟩ := g
    exact h2 pn s1 σ1 H1 D (Nat.le_trans h0 hk) J1 (hu σ1 H1 g)
end
end K01
namespace K01
open PySem PySem.Spec PyProof.Rows L2
/-! ### texts times numbers, lists times numbers -/
def rMulS (x y : V) (H : Hp) (Q : VK) : Prop := ∃ z, x = .str z ∧ ∃ n, y = .int n ∧ ∃ L N : Nat, z.length ≤ L ∧ n ≤ (N : Int) ∧ 0 ≤ n ∧ N ≤ 16777216 ∧ L * N ≤ 16777216 ∧ Q (.str (Txt.mul z n)) H
theorem op_mulS {X : Cx} : OpR X (binaryOp .Mult) rMulS := by
  intro pn s σ H x y v u Q J rx ry h
  obtain ⟨z, rfl, n, rfl, L, N, h1, h2, h3, h4, h5, q⟩ := h
  obtain ⟨t, rfl⟩ := rx
  obtain ⟨t', rfl⟩ := ry
  exact SB.mul (mulOk_of L N h1 h2 (by omega) h4 h5) fun tt k => ⟨.str (Txt.mul z n), H, J.tok k, ⟨tt, rfl⟩, q⟩
def rRepL (x y : V) (H : Hp) (Q : VK) : Prop := ∃ l, x = .ref l ∧ ∃ k, y = .int k ∧ ∃ xs, H l = some (.lst xs) ∧ -(2 ^ 63) ≤ k ∧ k < 2 ^ 63 ∧ xs.length * k.toNat ≤ sizeLine ∧ ∀ p, H p = none → Q (.ref p) (L2.upd H p (.lst (List.replicate k.toNat xs).flatten))
theorem op_repL {X : Cx} : OpR X (binaryOp .Mult) rRepL := opR_mono op_rep fun _ _ _ _ ⟨l, e, k, e2, xs, h1, h2, h3, h4, q⟩ => ⟨l, k, xs, e, e2, h1, h2, h3, h4, q⟩
def rCatL (x y : V) (H : Hp) (Q : VK) : Prop := ∃ l, x = .ref l ∧ ∃ b, y = .ref b ∧ ∃ xs, H l = some (.lst xs) ∧ ∃ zs, H b = some (.lst zs) ∧ xs.length + zs.length ≤ sizeLine ∧ ∀ p, H p = none → Q (.ref p) (L2.upd H p (.lst (xs ++ zs)))
theorem op_catL {X : Cx} : OpR X (binaryOp .Add) rCatL := opR_mono op_cat fun _ _ _ _ ⟨l, e, b, e2, xs, h1, zs, h2, h3, q⟩ => ⟨l, b, xs, zs, e, e2, h1, h2, h3, q⟩
theorem mul_le {z : Str} {n : Int} {L N : Nat} (h1 : z.length ≤ L) (h2 : n ≤ (N : Int)) : (Txt.mul z n).length ≤ L * N := len_mul_leN h1 h2
end K01
namespace K01
open PySem PySem.Spec PyProof.Rows L2
local macro_rules | `(tactic| walk_at "rd") => `(tactic| simp only [start1, wipe, isR, isBool, isInt, isStr, isLst, isTup, tAsg, gName, gSub, tVar, tC, tOp, tUn, tTest, tIfS, tRet, tRetN, tDrop, tB, tAnd, tOr, tNot, tAndV, tOrV, tNotV, tIf, tCB, tCons, tNil, tNext, tCall, tBM, tTup, tLst, rI0, rI, rEq, rNe, scal, forR_eq, forR2_eq, forS_eq, forL_eq, lcL_eq, lcR_eq, lcS_eq, rLenX, rLenS, rMulS, rRepL, rCatL, tPart, tNoPart, CwR.tReplC, rAllK, rInSg, rNinSg, sgn_inj, rAddS, rInSt, tChain, tM1, tM0, rSplitN, rJoinN, exists_eq, rIntI, rIntB, rIntS, rStrI, rAbs, rOrd, rMin, rMax, rIxL, rIxX, rSetL, rAppend, rIxS, rSlS, rSlL, tSl, List.map_cons, List.map_nil, List.replicate_succ, List.replicate_zero, List.length_cons, List.length_nil, Nat.reduceSub, Nat.reduceAdd, Nat.zero_add, Nat.sub_self, List.getElem?_cons_zero, List.getElem?_cons_succ, List.set_cons_zero, List.set_cons_succ, List.append_nil, List.nil_append, List.cons_append, Option.some.injEq, not_true_eq_false, reduceCtorEq, exists_eq_left', exists_eq_left, exists_eq', exists_and_left, exists_and_right, V.int.injEq, V.str.injEq, V.bl.injEq, V.ref.injEq, List.cons.injEq, and_true, true_and, and_assoc, decide_eq_true_eq, Bool.not_eq_true', decide_eq_false_iff_not, ite_true, ite_false, if_true, if_false, Bool.not_true, Bool.not_false, Bool.false_eq_true, eq_self_iff_true, reduceIte, ne_eq, Int.reduceEq, not_false_eq_true])
local macro_rules | `(tactic| walk_at "rt") => `(tactic| try walk_at "rd")
local macro_rules | `(tactic| walk_at "st") => `(tactic| (walk_at "rt"; refine r_seq ?_; walk_at "rt"))
local macro_rules | `(tactic| walk_at "hp") => `(tactic| first | assumption | exact upd_same | (rw [upd_ne (by assumption)]; walk_at "hp"))
local macro_rules | `(tactic| walk_at "ex1") => `(tactic| ((with_reducible refine Exists.intro ?w (And.intro ?hx ?_)); (case hx => first | exact sq_of (by walk_at "hp") | exact .inl (sq_of (by walk_at "hp")) | exact rfl | (show _ = some (HO.lst _); walk_at "hp"))))
local macro_rules | `(tactic| walk_at "ex") => `(tactic| repeat (first | walk_at "ex1" | walk_at "rd"))
/-! ### data -/
inductive Dat where
  | non | bl (b : Bool) | int (i : Int) | str (s : Str) | lst (l : List Dat) | tup (l : List Dat)
mutual
def At (H : Hp) (A : Addr → Prop) : Dat → V → Prop
  | .non, v => v = .non
  | .bl b, v => v = .bl b
  | .int i, v => v = .int i
  | .str s, v => v = .str s
  | .lst l, v => ∃ a xs, v = .ref a ∧ A a ∧ H a = some (.lst xs) ∧ xs.length ≤ 1000000 ∧ AtL H A l xs
  | .tup l, v => ∃ a xs, v = .ref a ∧ A a ∧ H a = some (.tup xs) ∧ xs.length ≤ 1000000 ∧ AtL H A l xs
def AtL (H : Hp) (A : Addr → Prop) : List Dat → List V → Prop
  | [], xs => xs = []
  | d :: l, xs => ∃ v r, xs = v :: r ∧ At H A d v ∧ AtL H A l r
end
mutual
def Dat.dep : Dat → Nat
  | .lst l => depL l + 1
  | .tup l => depL l + 1
  | _ => 0
def depL : List Dat → Nat
  | [] => 0
  | d :: l => max d.dep (depL l)
end
mutual
def same : Dat → Dat → Bool
  | .non, .non => true
  | .bl a, .bl b => decide (a = b)
  | .int a, .int b => decide (a = b)
  | .str a, .str b => decide (a = b)
  | .lst l, .lst m => sameL l m
  | .tup l, .tup m => sameL l m
  | _, _ => false
def sameL : List Dat → List Dat → Bool
  | [], [] => true
  | d :: l, e :: m => same d e && sameL l m
  | _, _ => false
end
mutual
theorem same_refl : ∀ d : Dat, same d d = true
  | .non => rfl
  | .bl _ => by simp [same]
  | .int _ => by simp [same]
  | .str _ => by simp [same]
  | .lst l => by rw [same]; exact sameL_refl l
  | .tup l => by rw [same]; exact sameL_refl l
theorem sameL_refl : ∀ l : List Dat, sameL l l = true
  | [] => rfl
  | d :: l => by rw [sameL, same_refl d, sameL_refl l]; rfl
end
mutual
theorem At.mono {H H' : Hp} {A A' : Addr → Prop} (hA : ∀ p, A p → A' p) (k : ∀ p o, A p → H p = some o → H' p = some o) : ∀ (d : Dat) (v : V), At H A d v → At H' A' d v
  | .non, _, h => h
  | .bl _, _, h => h
  | .int _, _, h => h
  | .str _, _, h => h
  | .lst l, _, ⟨a, xs, e, ha, hx, hl, hr⟩ => ⟨a, xs, e, hA a ha, k a _ ha hx, hl, AtL.mono hA k l xs hr⟩
  | .tup l, _, ⟨a, xs, e, ha, hx, hl, hr⟩ => ⟨a, xs, e, hA a ha, k a _ ha hx, hl, AtL.mono hA k l xs hr⟩
theorem AtL.mono {H H' : Hp} {A A' : Addr → Prop} (hA : ∀ p, A p → A' p) (k : ∀ p o, A p → H p = some o → H' p = some o) : ∀ (l : List Dat) (xs : List V), AtL H A l xs → AtL H' A' l xs
  | [], _, h => h
  | d :: l, _, ⟨v, r, e, h1, h2⟩ => ⟨v, r, e, At.mono hA k d v h1, AtL.mono hA k l r h2⟩
end
theorem AtL.length {H : Hp} {A : Addr → Prop} : ∀ (l : List Dat) (xs : List V), AtL H A l xs → xs.length = l.length
  | [], _, h => by rw [show _ = [] from h]; rfl
  | d :: l, _, ⟨v, r, e, h1, h2⟩ => by rw [e, List.length_cons, List.length_cons, AtL.length l r h2]
theorem AtL.get {H : Hp} {A : Addr → Prop} : ∀ (l : List Dat) (xs : List V) (i : Nat) (d : Dat), AtL H A l xs → l[i]? = some d → ∃ v, xs[i]? = some v ∧ At H A d v
  | [], _, _, _, _, h => by simp at h
  | d :: l, _, 0, e, ⟨v, r, ex, h1, h2⟩, h => by
    subst ex
    cases h
    exact ⟨v, rfl, h1⟩
  | d :: l, _, i + 1, e, ⟨v, r, ex, h1, h2⟩, h => by
    subst ex
    exact AtL.get l r i e h2 h
theorem AtL.snoc {H : Hp} {A : Addr → Prop} : ∀ (l : List Dat) (xs : List V) (d : Dat) (v : V), AtL H A l xs → At H A d v → AtL H A (l ++ [d]) (xs ++ [v])
  | [], _, d, v, h, h2 => by rw [show _ = [] from h]; exact ⟨v, [], rfl, h2, rfl⟩
  | e :: l, _, d, v, ⟨w, r, ex, h1, h2⟩, h3 => by rw [ex]; exact ⟨w, r ++ [v], rfl, h1, AtL.snoc l r d v h2 h3⟩
theorem dep_get : ∀ (l : List Dat) (i : Nat) (d : Dat), l[i]? = some d → d.dep ≤ depL l
  | [], _, _, h => by simp at h
  | e :: l, 0, d, h => by cases h; rw [depL]; exact Nat.le_max_left _ _
  | e :: l, i + 1, d, h => by rw [depL]; exact Nat.le_trans (dep_get l i d h) (Nat.le_max_right _ _)
/-! ### isinstance of data -/
def isBool : Dat → Bool | .bl _ => true | _ => false
def isInt : Dat → Bool | .bl _ => true | .int _ => true | _ => false
def isStr : Dat → Bool | .str _ => true | _ => false
def isLst : Dat → Bool | .lst _ => true | _ => false
def isTup : Dat → Bool | .tup _ => true | _ => false
def tyOf : Dat → String | .non => "NoneType" | .bl _ => "bool" | .int _ => "int" | .str _ => "str" | .lst _ => "list" | .tup _ => "tuple"
theorem tyx {K : PySem.W.Frag} {H : Hp} {A : Addr → Prop} : ∀ {d : Dat} {v : V}, At H A d v → TyX K H v (.type (tyOf d))
  | .non, _, h => by rw [show _ = V.non from h]; exact .base .non
  | .bl b, _, h => by rw [show _ = V.bl b from h]; exact .base (.bl b)
  | .int b, _, h => by rw [show _ = V.int b from h]; exact .base (.int b)
  | .str b, _, h => by rw [show _ = V.str b from h]; exact .base (.str b)
  | .lst l, _, ⟨a, xs, e, _, hx, _⟩ => by subst e; exact .base (.lst hx)
  | .tup l, _, ⟨a, xs, e, _, hx, _⟩ => by subst e; exact .base (.tup hx)
def isR (T : String) (p : Dat → Bool) : List V → Hp → VK → Prop := fun xs H Q => ∃ x, xs = [x, .ty T] ∧ ∃ A d, At H A d x ∧ Q (.bl (p d)) H
theorem call_is {X : Cx} (T : String) (p : Dat → Bool) (h : ∀ d, kitB (tyOf d) T = some (p d)) : CallR X (.builtin "isinstance") (isR T p) := callR_mono call_isi fun xs H Q ⟨x, e, A, d, ha, q⟩ =>
  ⟨x, .ty T, _, _, p d, e, .ty T, tyx ha, kit_ty (h d), q⟩
theorem call_is_bool {X : Cx} : CallR X (.builtin "isinstance") (isR "bool" isBool) := call_is _ _ fun d => by cases d <;> (simp only [tyOf, isBool]; decide +kernel)
theorem call_is_int {X : Cx} : CallR X (.builtin "isinstance") (isR "int" isInt) := call_is _ _ fun d => by cases d <;> (simp only [tyOf, isInt]; decide +kernel)
theorem call_is_str {X : Cx} : CallR X (.builtin "isinstance") (isR "str" isStr) := call_is _ _ fun d => by cases d <;> (simp only [tyOf, isStr]; decide +kernel)
theorem call_is_dict {X : Cx} : CallR X (.builtin "isinstance") (isR "dict" fun _ => false) := call_is _ _ fun d => by cases d <;> (simp only [tyOf]; decide +kernel)
theorem call_is_list {X : Cx} : CallR X (.builtin "isinstance") (isR "list" isLst) := call_is _ _ fun d => by cases d <;> (simp only [tyOf, isLst]; decide +kernel)
theorem call_is_tuple {X : Cx} : CallR X (.builtin "isinstance") (isR "tuple" isTup) := call_is _ _ fun d => by cases d <;> (simp only [tyOf, isTup]; decide +kernel)
end K01
namespace K01
open PySem PySem.Spec PyProof.Rows L2 TL
/-! ### texts: cutting and joining at one sign -/
theorem pre1 (s c : Nat) (r : List Nat) : pre [s] (c :: r) = (c == s) := by
  show ((c :: r).take 1 == [s]) = (c == s)
  simp
theorem spl_ne (s : Nat) : ∀ (l acc : List Nat), spl [s] 0 acc l ≠ []
  | [], acc => by rw [spl_nil]; simp
  | c :: r, acc => by
    by_cases h : pre [s] (c :: r) = true
    · rw [spl_hit h]; simp
    · rw [spl_miss (by simpa using h)]; exact spl_ne s r _
theorem join_spl (s : Nat) : ∀ (l acc : List Nat), joinL [s] (spl [s] 0 acc l) = acc ++ l
  | [], acc => by rw [spl_nil, List.append_nil]; rfl
  | c :: r, acc => by
    by_cases h : pre [s] (c :: r) = true
    · have e : c = s := by rw [pre1] at h; simpa using h
      rw [spl_hit h]
      have ih := join_spl s r []
      have hne := spl_ne s r []
      show joinL [s] (acc :: spl [s] 0 [] r) = acc ++ c :: r
      cases e2 : spl [s] 0 [] r with
      | nil => exact absurd e2 hne
      | cons q t =>
        rw [e2] at ih
        show acc ++ ([s] ++ joinL [s] (q :: t)) = acc ++ c :: r
        rw [ih, e]
        rfl
    · rw [spl_miss (by simpa using h), join_spl s r, List.append_assoc]
      rfl
theorem spl_free (s : Nat) : ∀ (l acc : List Nat), s ∉ acc → ∀ p ∈ spl [s] 0 acc l, s ∉ p
  | [], acc, h, p, hp => by rw [spl_nil] at hp; rw [List.mem_singleton.mp hp]; exact h
  | c :: r, acc, h, p, hp => by
    by_cases hc : pre [s] (c :: r) = true
    · rw [spl_hit hc] at hp
      rcases List.mem_cons.mp hp with e | hp
      · rw [e]; exact h
      · exact spl_free s r [] (by simp) p hp
    · rw [spl_miss (by simpa using hc)] at hp
      refine spl_free s r _ (fun hm => ?_) p hp
      rcases List.mem_append.mp hm with hm | hm
      · exact h hm
      · rw [pre1] at hc
        exact hc (by rw [List.mem_singleton.mp hm]; simp)
theorem spl_sub (s : Nat) : ∀ (l acc : List Nat) (t : Nat), t ∉ l → t ∉ acc → ∀ p ∈ spl [s] 0 acc l, t ∉ p
  | [], acc, t, _, h, p, hp => by rw [spl_nil] at hp; rw [List.mem_singleton.mp hp]; exact h
  | c :: r, acc, t, hl, h, p, hp => by
    have hr : t ∉ r := fun z => hl (List.mem_cons_of_mem _ z)
    by_cases hc : pre [s] (c :: r) = true
    · rw [spl_hit hc] at hp
      rcases List.mem_cons.mp hp with e | hp
      · rw [e]; exact h
      · exact spl_sub s r [] t hr (by simp) p hp
    · rw [spl_miss (by simpa using hc)] at hp
      refine spl_sub s r _ t hr (fun hm => ?_) p hp
      rcases List.mem_append.mp hm with hm | hm
      · exact h hm
      · exact hl (by rw [List.mem_singleton.mp hm]; exact List.mem_cons_self)
theorem joinL_len (s : Nat) : ∀ (ps : List (List Nat)), ps ≠ [] → (joinL [s] ps).length + 1 = (ps.map (·.length)).sum + ps.length
  | [], h => absurd rfl h
  | [p], _ => by
    show p.length + 1 = p.length + 0 + 1
    omega
  | p :: q :: r, _ => by
    have ih := joinL_len s (q :: r) (by simp)
    show (p ++ ([s] ++ joinL [s] (q :: r))).length + 1 = _
    rw [List.map_cons, List.sum_cons, List.length_append, List.length_append, List.length_cons (as := q :: r)]
    simp only [List.length_cons, List.length_nil] at ih ⊢
    omega
def nl : Str := Str.ofString "\n"
def sp : Str := Str.ofString " "
theorem tl_nl : tl nl = [10] := by decide +kernel
theorem tl_sp : tl sp = [32] := by decide +kernel
theorem kind_nl : nl.cps.all (· < 256) = true := by decide +kernel
theorem kind_sp : sp.cps.all (· < 256) = true := by decide +kernel
section
variable {y : Str} {s : Nat}
theorem split_tl (ey : tl y = [s]) (hk : y.cps.all (· < 256) = true) (x : Str) : (Txt.split x y).map tl = spl [s] 0 [] (tl x) := by
  rw [split_spl _ y (by rw [ey]; simp) (kind_ok hk), ey]
theorem split_ne (ey : tl y = [s]) (hk : y.cps.all (· < 256) = true) (x : Str) : Txt.split x y ≠ [] := fun e => by
  have h := split_tl ey hk x
  rw [e] at h
  exact spl_ne s _ _ h.symm
theorem join_split (ey : tl y = [s]) (hk : y.cps.all (· < 256) = true) (x : Str) : Txt.join y (Txt.split x y) = x := by
  refine ext_tl ?_
  rw [join_eq, tl_join, ey, split_tl ey hk, join_spl, List.nil_append]
theorem split_free (ey : tl y = [s]) (hk : y.cps.all (· < 256) = true) (x : Str) : ∀ p ∈ Txt.split x y, s ∉ tl p := fun p hp =>
  spl_free s (tl x) [] (by simp) (tl p) (by rw [← split_tl ey hk x]; exact List.mem_map_of_mem hp)
theorem split_sub (ey : tl y = [s]) (hk : y.cps.all (· < 256) = true) (x : Str) {t : Nat} (h : t ∉ tl x) : ∀ p ∈ Txt.split x y, t ∉ tl p := fun p hp =>
  spl_sub s (tl x) [] t h (by simp) (tl p) (by rw [← split_tl ey hk x]; exact List.mem_map_of_mem hp)
theorem join_len (ey : tl y = [s]) (ps : List Str) (h : ps ≠ []) : (Txt.join y ps).length + 1 = (ps.map (·.length)).sum + ps.length := by
  rw [len_tl, join_eq, tl_join, ey, joinL_len s _ (by simpa using h), List.map_map, List.length_map]
  have e : (ps.map (List.length ∘ tl)) = ps.map (·.length) := List.map_congr_left fun p _ => (len_tl p).symm
  rw [e]
theorem split_len (ey : tl y = [s]) (hk : y.cps.all (· < 256) = true) (x : Str) : ((Txt.split x y).map (·.length)).sum + (Txt.split x y).length = x.length + 1 := by
  rw [← join_len ey _ (split_ne ey hk x), join_split ey hk]
end
/-! ### lines of words -/
abbrev Lines := List (List Str)
def splitW (z : Str) : Lines := (Txt.split z nl).map fun l => Txt.split l sp
def joinW (ls : Lines) : Str := Txt.join nl (ls.map fun ws => Txt.join sp ws)
def plainW (ls : Lines) : Prop := ls ≠ [] ∧ ∀ ws ∈ ls, ws ≠ [] ∧ ∀ x ∈ ws, 32 ∉ tl x ∧ 10 ∉ tl x
theorem splitW_plain (z : Str) : plainW (splitW z) := by
  refine ⟨fun e => split_ne tl_nl kind_nl z (List.map_eq_nil_iff.mp e), fun ws hw => ?_⟩
  obtain ⟨l, hl, rfl⟩ := List.mem_map.mp hw
  exact ⟨split_ne tl_sp kind_sp l, fun x hx => ⟨split_free tl_sp kind_sp l x hx, split_sub tl_sp kind_sp l (split_free tl_nl kind_nl z l hl) x hx⟩⟩
theorem joinW_splitW (z : Str) : joinW (splitW z) = z := by
  show Txt.join nl (((Txt.split z nl).map fun l => Txt.split l sp).map fun ws => Txt.join sp ws) = z
  rw [List.map_map]
  have e : ((Txt.split z nl).map ((fun ws => Txt.join sp ws) ∘ fun l => Txt.split l sp)) = Txt.split z nl := by
    refine (List.map_congr_left fun l _ => ?_).trans (List.map_id _)
    exact join_split tl_sp kind_sp l
  rw [e, join_split tl_nl kind_nl]
theorem mem_joinL {s t : Nat} : ∀ {ps : List (List Nat)}, t ∈ joinL [s] ps → t = s ∨ ∃ p ∈ ps, t ∈ p
  | [], h => by cases h
  | [p], h => .inr ⟨p, List.mem_cons_self, h⟩
  | p :: q :: r, h => by
    rcases List.mem_append.mp (show t ∈ p ++ ([s] ++ joinL [s] (q :: r)) from h) with h | h
    · exact .inr ⟨p, List.mem_cons_self, h⟩
    · rcases List.mem_append.mp h with h | h
      · exact .inl (List.mem_singleton.mp h)
      · rcases mem_joinL h with h | ⟨p', hp, h⟩
        · exact .inl h
        · exact .inr ⟨p', List.mem_cons_of_mem _ hp, h⟩
theorem splitW_joinW {ls : Lines} (h : plainW ls) : splitW (joinW ls) = ls := by
  show (Txt.split (Txt.join nl (ls.map fun ws => Txt.join sp ws)) nl).map (fun l => Txt.split l sp) = ls
  rw [split_join tl_nl kind_nl (by simpa using h.1) fun p hp => ?_, List.map_map]
  · refine (List.map_congr_left fun ws hw => ?_).trans (List.map_id _)
    exact split_join tl_sp kind_sp (h.2 ws hw).1 fun p hp => ((h.2 ws hw).2 p hp).1
  · obtain ⟨ws, hw, rfl⟩ := List.mem_map.mp hp
    intro hm
    rw [join_eq, tl_join, tl_sp] at hm
    rcases mem_joinL hm with e | ⟨p, hp, hm⟩
    · cases e
    · obtain ⟨x, hx, rfl⟩ := List.mem_map.mp hp
      exact ((h.2 ws hw).2 x hx).2 hm
/-- how much there is -/
def totW (ls : Lines) : Nat := (ls.map fun ws => (ws.map (·.length)).sum + ws.length + 1).sum
theorem sum_le_of {α : Type} (f : α → Nat) : ∀ (l : List α) (x : α), x ∈ l → f x ≤ (l.map f).sum
  | [], _, h => by cases h
  | a :: l, x, h => by
    rw [List.map_cons, List.sum_cons]
    rcases List.mem_cons.mp h with e | h
    · rw [e]; omega
    · have := sum_le_of f l x h
      omega
theorem length_le_sum {α : Type} (f : α → Nat) (k : ∀ x, 1 ≤ f x) : ∀ l : List α, l.length ≤ (l.map f).sum
  | [] => Nat.le_refl _
  | a :: l => by
    rw [List.map_cons, List.sum_cons, List.length_cons]
    have := length_le_sum f k l
    have := k a
    omega
theorem totW_len (ls : Lines) : ls.length ≤ totW ls := length_le_sum _ (fun _ => by omega) ls
theorem totW_row {ls : Lines} {ws : List Str} (h : ws ∈ ls) : (ws.map (·.length)).sum + ws.length + 1 ≤ totW ls := sum_le_of (fun ws => (ws.map (·.length)).sum + ws.length + 1) ls ws h
theorem joinW_le (ls : Lines) : ((ls.map fun ws => Txt.join sp ws).map (·.length)).sum + ls.length ≤ totW ls := by
  induction ls with
  | nil => exact Nat.le_refl _
  | cons ws r ih =>
    show ((Txt.join sp ws).length + ((r.map fun ws => Txt.join sp ws).map (·.length)).sum) + (r.length + 1) ≤ ((ws.map (·.length)).sum + ws.length + 1) + totW r
    have h : (Txt.join sp ws).length ≤ (ws.map (·.length)).sum + ws.length := by
      cases ws with
      | nil => exact Nat.le_of_eq (by rw [join_eq]; rfl)
      | cons x t =>
        have := join_len tl_sp (x :: t) (by simp)
        omega
    omega
theorem splitW_tot (z : Str) : totW (splitW z) ≤ 3 * z.length + 3 := by
  have h1 := split_len tl_nl kind_nl z
  have h2 : ∀ ls : List Str, totW (ls.map fun l => Txt.split l sp) = (ls.map (·.length)).sum + 2 * ls.length := by
    intro ls
    induction ls with
    | nil => rfl
    | cons l r ih =>
      have h3 := split_len tl_sp kind_sp l
      show ((Txt.split l sp).map (·.length)).sum + (Txt.split l sp).length + 1 + totW (r.map fun l => Txt.split l sp) = (l.length + (r.map (·.length)).sum) + 2 * (r.length + 1)
      omega
  show totW ((Txt.split z nl).map fun l => Txt.split l sp) ≤ _
  rw [h2]
  omega
end K01
namespace K01
open PySem PySem.Spec PyProof.Rows L2
local macro_rules | `(tactic| walk_at "rd") => `(tactic| simp only [start1, wipe, isR, isBool, isInt, isStr, isLst, isTup, tAsg, gName, gSub, tVar, tC, tOp, tUn, tTest, tIfS, tRet, tRetN, tDrop, tB, tAnd, tOr, tNot, tAndV, tOrV, tNotV, tIf, tCB, tCons, tNil, tNext, tCall, tBM, tTup, tLst, rI0, rI, rEq, rNe, scal, forR_eq, forR2_eq, forS_eq, forL_eq, lcL_eq, lcR_eq, lcS_eq, rLenX, rLenS, rMulS, rRepL, rCatL, tPart, tNoPart, CwR.tReplC, rAllK, rInSg, rNinSg, sgn_inj, rAddS, rInSt, tChain, tM1, tM0, rSplitN, rJoinN, exists_eq, rIntI, rIntB, rIntS, rStrI, rAbs, rOrd, rMin, rMax, rIxL, rIxX, rSetL, rAppend, rIxS, rSlS, rSlL, tSl, List.map_cons, List.map_nil, List.replicate_succ, List.replicate_zero, List.length_cons, List.length_nil, Nat.reduceSub, Nat.reduceAdd, Nat.zero_add, Nat.sub_self, List.getElem?_cons_zero, List.getElem?_cons_succ, List.set_cons_zero, List.set_cons_succ, List.append_nil, List.nil_append, List.cons_append, Option.some.injEq, not_true_eq_false, reduceCtorEq, exists_eq_left', exists_eq_left, exists_eq', exists_and_left, exists_and_right, V.int.injEq, V.str.injEq, V.bl.injEq, V.ref.injEq, List.cons.injEq, and_true, true_and, and_assoc, decide_eq_true_eq, Bool.not_eq_true', decide_eq_false_iff_not, ite_true, ite_false, if_true, if_false, Bool.not_true, Bool.not_false, Bool.false_eq_true, eq_self_iff_true, reduceIte, ne_eq, Int.reduceEq, not_false_eq_true])
local macro_rules | `(tactic| walk_at "rt") => `(tactic| try walk_at "rd")
local macro_rules | `(tactic| walk_at "st") => `(tactic| (walk_at "rt"; refine r_seq ?_; walk_at "rt"))
local macro_rules | `(tactic| walk_at "hp") => `(tactic| first | assumption | exact upd_same | (rw [upd_ne (by assumption)]; walk_at "hp"))
local macro_rules | `(tactic| walk_at "ex1") => `(tactic| ((with_reducible refine Exists.intro ?w (And.intro ?hx ?_)); (case hx => first | exact sq_of (by walk_at "hp") | exact .inl (sq_of (by walk_at "hp")) | exact rfl | (show _ = some (HO.lst _); walk_at "hp"))))
local macro_rules | `(tactic| walk_at "ex") => `(tactic| repeat (first | walk_at "ex1" | walk_at "rd"))
abbrev s_mixed : Stmt := topS 52
theorem sc_mixed : FnScope ["number", "turn", "many", "one", "two", "three", "value"] ["number", "turn", "many"] (defScope s_mixed) := ⟨rfl, rfl, rfl, by decide +kernel, rfl, by decide +kernel, by decide +kernel⟩
abbrev s_take : Stmt := topS 53
theorem sc_take : FnScope ["store", "many", "value", "number", "cell"] ["store", "many"] (defScope s_take) := ⟨rfl, rfl, rfl, by decide +kernel, rfl, by decide +kernel, by decide +kernel⟩
abbrev s_pick : Stmt := topS 54
theorem sc_pick : FnScope ["store", "row"] ["store", "row"] (defScope s_pick) := ⟨rfl, rfl, rfl, by decide +kernel, rfl, by decide +kernel, by decide +kernel⟩
abbrev s_chance : Stmt := topS 55
theorem sc_chance : FnScope ["store", "many"] ["store", "many"] (defScope s_chance) := ⟨rfl, rfl, rfl, by decide +kernel, rfl, by decide +kernel, by decide +kernel⟩
abbrev s_number : Stmt := topS 56
theorem sc_number : FnScope ["store", "low", "high", "kind"] ["store", "low", "high"] (defScope s_number) := ⟨rfl, rfl, rfl, by decide +kernel, rfl, by decide +kernel, by decide +kernel⟩
abbrev s_size : Stmt := topS 57
theorem sc_size : FnScope ["store", "low", "high", "kind"] ["store", "low", "high"] (defScope s_size) := ⟨rfl, rfl, rfl, by decide +kernel, rfl, by decide +kernel, by decide +kernel⟩
/-! ### the store that draws -/
structure StoreAt (H : Hp) (a c : Addr) : Prop where
  ex : ∃ (cells : List Int) (pos val turn seed : Int), H a = some (.lst [.ref c, .int pos, .int val, .int turn, .int seed]) ∧ H c = some (.lst (cells.map V.int)) ∧ 0 ≤ pos ∧ 0 ≤ val
  ne : c ≠ a
/-- what a draw leaves -/
def Drawn (H : Hp) (a c : Addr) (R : V → Prop) (Q : VK) : Prop := ∀ v H', StoreAt H' a c → But a H H' → R v → Q v H'
def spMixed : Sp := fun vs H Q _ => ∃ (n t m : Int), vs = [.int n, .int t, .int m] ∧ 2 ≤ m ∧ ∀ r : Int, 0 ≤ r → r < m → Q (.int r) H
/-- a number below many -/
def Below (m : Int) (v : V) : Prop := ∃ r : Int, v = .int r ∧ 0 ≤ r ∧ (r < m ∨ r = 0)
def spTake : Sp := fun vs H Q _ => ∃ (a c : Addr) (m : Int), vs = [.ref a, .int m] ∧ StoreAt H a c ∧ m ≤ 2 ^ 70 ∧ Drawn H a c (Below m) Q
theorem fm {x M y : Int} (hM : 0 < M) (e : x.fmod M = y) : 0 ≤ y ∧ y < M := by
  rw [← e, Int.fmod_eq_emod_of_nonneg _ (by omega)]
  exact ⟨Int.emod_nonneg _ (by omega), Int.emod_lt_of_pos _ hM⟩
theorem small_div {m : Int} (h2 : 2 ≤ m) (h : m ≤ 2 ^ 70) (x : Int) : CDivW x m := wide_div (b := 71) (by omega) (by omega) (by decide) (by decide)
section
variable {P : Program} {w : World} {K : PySem.W.Frag} {mg : Str → Option Value} {base : Heap}
theorem ok_mixed {f : Addr} {fd : FuncData} (B : Bi mg) (D : Dn K mg "_law_mixed" s_mixed ["number", "turn", "many"] f fd) : FnOk P w K mg base CX0 1 f fd ["number", "turn", "many"] spMixed := by
  refine D.F.ok sc_mixed (fun vs H Q E h => ?_) (fun cdv A outer s H vs Q E hr h => ?_)
  · obtain ⟨n, t, m, rfl, _⟩ := h
    rfl
  · obtain ⟨n, t, m, rfl, hm, q⟩ := h
    refine ⟨_, (pss_cons (ps_set (i := 3) sc_mixed.nd rfl (.inl rfl) (pe_op op_modN (pe_callTy call_intI (by rfl) B.int_ (by decide +kernel) (pa_cons (pe_op op_add (pe_op op_add (pe_op op_mul (pv 0) pe_int) (pe_op op_mul (pv 1) pe_int)) pe_int) pa_nil)) pe_int))
      (pss_cons (ps_set (i := 4) sc_mixed.nd rfl (.inl rfl) (pe_op op_modN (pe_callTy call_intI (by rfl) B.int_ (by decide +kernel) (pa_cons (pe_op op_add (pe_op op_add (pe_op op_mul (pv 3) (pv 3)) (pv 1)) pe_int) pa_nil)) pe_int))
      (pss_cons (ps_set (i := 5) sc_mixed.nd rfl (.inl rfl) (pe_op op_modN (pe_callTy call_intI (by rfl) B.int_ (by decide +kernel) (pa_cons (pe_op op_add (pe_op op_mul (pv 4) (pv 4)) (pv 3)) pa_nil)) pe_int))
      (pss_cons (ps_set (i := 6) sc_mixed.nd rfl (.inl rfl) (pe_op op_fdivW (pv 5) pe_int))
      (C8.pss_cut (ps_if (pt_cmpR op_gt (pv 2) pe_int (nomark _)) (pss_one (ps_set (i := 6) sc_mixed.nd rfl (.inl rfl) (pe_op op_add (pe_op op_mul (pv 6) pe_int) (pe_op op_modN (pe_callTy call_intI (by rfl) B.int_ (by decide +kernel) (pa_cons (pe_op op_add (pe_op op_mul (pv 5) (pv 5)) (pv 4)) pa_nil)) pe_int)))) pss_nil)
      (pss_one (ps_ret (pe_op op_modN (pe_callTy call_intI (by rfl) B.int_ (by decide +kernel) (pa_cons (pv 6) pa_nil)) (pv 2))))))))), ?_⟩
    walk_at "st"
    refine ⟨.inr ⟨by decide, by decide⟩, .inr ⟨by decide, by decide⟩, ?_⟩
    generalize e1 : Int.fmod _ _ = one
    obtain ⟨a1, b1⟩ := fm (by decide) e1
    walk_at "st"
    refine ⟨.inl ⟨by omega, by omega⟩, ?_⟩
    generalize e2 : Int.fmod _ _ = two
    obtain ⟨a2, b2⟩ := fm (by decide) e2
    walk_at "st"
    refine ⟨.inl ⟨by omega, by omega⟩, ?_⟩
    generalize e3 : Int.fmod _ _ = three
    obtain ⟨a3, b3⟩ := fm (by decide) e3
    walk_at "st"
    refine ⟨⟨by decide, by decide⟩, ?_⟩
    refine r_cut (fun σ' H' => (∃ v : Int, σ' = [some (.int n), some (.int t), some (.int m), some (.int one), some (.int two), some (.int three), some (.int v)]) ∧ H' = H) (fun N k => ?_) ?_
    · walk_at "rt"
      exact ite2 (fun _ => ⟨.inr ⟨by decide, by decide⟩, .inl ⟨by omega, by omega⟩, k _ _ ⟨⟨_, rfl⟩, rfl⟩⟩) (fun _ => k _ _ ⟨⟨_, rfl⟩, rfl⟩)
    · rintro σ' H' ⟨⟨v, rfl⟩, rfl⟩
      walk_at "rt"
      generalize e4 : Int.fmod _ _ = r
      obtain ⟨a4, b4⟩ := fm (by omega) e4
      exact ⟨by omega, q r a4 b4⟩
theorem ok_take {f fM : Addr} {fd fdM : FuncData} (B : Bi mg) (D : Dn K mg "_law_take" s_take ["store", "many"] f fd) (D_mixed : Dn K mg "_law_mixed" s_mixed ["number", "turn", "many"] fM fdM) : FnOk P w K mg base CX0 2 f fd ["store", "many"] spTake := by
  have G_mixed : FnOk P w K mg base CX0 1 fM fdM ["number", "turn", "many"] spMixed := ok_mixed B D_mixed
  refine D.F.ok sc_take (fun vs H Q E h => ?_) (fun cdv A outer s H vs Q E hr h => ?_)
  · obtain ⟨a, c, m, rfl, _⟩ := h
    rfl
  · obtain ⟨a, c, m, rfl, S, hm, q⟩ := h
    obtain ⟨cells, pos, val, turn, seed, ha, hc, h0, hv⟩ := S.ex
    refine ⟨_, (pss_cons (ps_if (pt_cmpR op_lt (pv 1) pe_int (nomark _)) (pss_one (ps_ret pe_int)) pss_nil)
      (pss_cons (ps_set (i := 2) sc_take.nd rfl (.inl rfl) (pe_ix (ix_listK (K := K)) (pv 0) pe_int (fun _ _ => rfl)))
      (pss_cons (ps_set (i := 3) sc_take.nd rfl (.inl rfl) (pe_ix (ix_listK (K := K)) (pv 0) pe_int (fun _ _ => rfl)))
      (C8.pss_cut (ps_if (pt_cmpR op_eq (pv 2) pe_int (nomark _)) (pss_cons (ps_asg (pe_op op_add (pe_ix (ix_listK (K := K)) (pv 0) pe_int (fun _ _ => rfl)) pe_int) (pg_sub (pv 0) pe_int set_list (fun _ => rfl)))
      (pss_one (ps_if (pt_cmpR op_lt (pe_ix (ix_listK (K := K)) (pv 0) pe_int (fun _ _ => rfl)) (pe_callB (call_lenXK (K := K)) (by rfl) B.len PySem.boot_len (pa_cons (pe_ix (ix_listK (K := K)) (pv 0) pe_int (fun _ _ => rfl)) pa_nil)) (nomark _)) (pss_cons (ps_set (i := 4) sc_take.nd rfl (.inl rfl) (pe_ix (ix_listK (K := K)) (pe_ix (ix_listK (K := K)) (pv 0) pe_int (fun _ _ => rfl)) (pe_ix (ix_listK (K := K)) (pv 0) pe_int (fun _ _ => rfl)) (fun _ _ => rfl)))
      (pss_cons (ps_asg (pe_op op_add (pe_ix (ix_listK (K := K)) (pv 0) pe_int (fun _ _ => rfl)) pe_int) (pg_sub (pv 0) pe_int set_list (fun _ => rfl)))
      (pss_cons (ps_set (i := 3) sc_take.nd rfl (.inl rfl) (pe_op op_mul (pe_callB call_absI (by rfl) B.abs (by decide +kernel) (pa_cons (pv 4) pa_nil)) pe_int))
      (C8.pss_cut (ps_if (pt_cmpR op_lt (pv 4) pe_int (nomark _)) (pss_one (ps_set (i := 3) sc_take.nd rfl (.inl rfl) (pe_op op_add (pv 3) pe_int))) pss_nil)
      (pss_one (ps_if (pt_cmpR op_ge (pe_callB call_absI (by rfl) B.abs (by decide +kernel) (pa_cons (pv 4) pa_nil)) (pe_op op_pow pe_int pe_int) (nomark _)) (pss_one (ps_set (i := 2) sc_take.nd rfl (.inl rfl) (pe_callB call_absI (by rfl) B.abs (by decide +kernel) (pa_cons (pv 4) pa_nil)))) pss_nil)))))) pss_nil))) pss_nil)
      (pss_cons (ps_if (pt_cmpR op_eq (pv 2) pe_int (nomark _)) (pss_one (ps_ret (pe_call G_mixed (hr.mono (by omega)) (by rfl) D_mixed.g D_mixed.F.kp D_mixed.b .nil pass0 (pa_cons (pv 3) (pa_cons (pe_ix (ix_listK (K := K)) (pv 0) pe_int (fun _ _ => rfl)) (pa_cons (pv 1) pa_nil)))))) pss_nil)
      (pss_cons (ps_asg (pe_op op_fdivW (pe_callTy call_intI (by rfl) B.int_ (by decide +kernel) (pa_cons (pv 2) pa_nil)) (pv 1)) (pg_sub (pv 0) pe_int set_list (fun _ => rfl)))
      (pss_one (ps_ret (pe_op op_modN (pe_callTy call_intI (by rfl) B.int_ (by decide +kernel) (pa_cons (pv 2) pa_nil)) (pv 1)))))))))), ?_⟩
    walk_at "st"
    refine ite2 (fun hlt => ?_) (fun hge => ?_)
    · exact q _ _ S (But.refl _ _) ⟨0, rfl, by omega, .inr rfl⟩
    walk_at "st"
    refine ⟨_, sq_of ha, _, rfl, ?_⟩
    walk_at "st"
    refine ⟨_, sq_of ha, _, rfl, ?_⟩
    refine r_cut (fun σ' H' => ∃ (v n pos' turn' : Int) (x : Option V), σ' = [some (.ref a), some (.int m), some (.int v), some (.int n), x] ∧ H' a = some (.lst [.ref c, .int pos', .int val, .int turn', .int seed]) ∧ H' c = some (.lst (cells.map V.int)) ∧ 0 ≤ pos' ∧ 0 ≤ v ∧ But a H H') (fun N k => ?_) ?_
    · walk_at "rt"
      refine ite2 (fun hz => ?_) (fun hz => k _ _ ⟨_, _, _, _, _, rfl, ha, hc, h0, hv, But.refl _ _⟩)
      have nca := S.ne
      walk_at "st"
      walk_at "ex"
      generalize hH1 : upd H a _ = H1
      have ha1 : H1 a = some (.lst [.ref c, .int pos, .int val, .int (turn + 1), .int seed]) := by rw [← hH1]; exact upd_same
      have hc1 : H1 c = some (.lst (cells.map V.int)) := by rw [← hH1, upd_ne nca]; exact hc
      have b1 : But a H H1 := by rw [← hH1]; exact But.updA
      refine ite2 (fun hp => ?_) (fun hp => k _ _ ⟨_, _, _, _, _, rfl, ha1, hc1, h0, hv, b1⟩)
      have hp' : pos.toNat < cells.length := by
        rw [List.length_map] at hp
        omega
      obtain ⟨cell, hat⟩ := atI_map h0 hp'
      walk_at "st"
      walk_at "ex"

      refine ⟨_, hat, ?_⟩
      walk_at "st"
      walk_at "ex"
      generalize hH2 : upd H1 a _ = H2
      have ha2 : H2 a = some (.lst [.ref c, .int (pos + 1), .int val, .int (turn + 1), .int seed]) := by rw [← hH2]; exact upd_same
      have hc2 : H2 c = some (.lst (cells.map V.int)) := by rw [← hH2, upd_ne nca]; exact hc1
      have b2 : But a H H2 := b1.trans (by rw [← hH2]; exact But.updA)
      walk_at "st"
      refine ⟨.inr ⟨by decide, by decide⟩, ?_⟩
      refine r_cut (fun σ' H' => ∃ (n : Int), σ' = [some (.ref a), some (.int m), some (.int val), some (.int n), some (.int cell)] ∧ H' = H2) (fun N' k' => ?_) ?_
      · walk_at "rt"
        exact ite2 (fun _ => k' _ _ ⟨_, rfl, rfl⟩) (fun _ => k' _ _ ⟨_, rfl, rfl⟩)
      · rintro σ' H' ⟨n, rfl, rfl⟩
        walk_at "rt"
        refine ⟨⟨by decide, by decide, by decide⟩, ite2 (fun _ => k _ _ ⟨_, _, _, _, _, rfl, ha2, hc2, by omega, by split <;> omega, b2⟩) (fun _ => k _ _ ⟨_, _, _, _, _, rfl, ha2, hc2, by omega, hv, b2⟩)⟩
    · rintro σ' H' ⟨v, n, pos', turn', x, rfl, ha', hc', h0', hv', b'⟩
      have nca := S.ne
      walk_at "st"
      refine ite2 (fun hz => ?_) (fun hz => ?_)
      · walk_at "ex"
        refine ⟨_, _, _, rfl, by omega, fun r h1 h2 => q _ _ ⟨⟨cells, pos', val, turn', seed, ha', hc', h0', hv⟩, nca⟩ b' ⟨r, rfl, h1, .inl h2⟩⟩
      · walk_at "st"
        refine ⟨small_div (by omega) hm _, ?_⟩
        walk_at "ex"
        generalize hH1 : upd H' a _ = H1
        have ha1 : H1 a = some (.lst [.ref c, .int pos', .int (v / m), .int turn', .int seed]) := by rw [← hH1]; exact upd_same
        have hc1 : H1 c = some (.lst (cells.map V.int)) := by rw [← hH1, upd_ne nca]; exact hc'
        have b1 : But a H H1 := b'.trans (by rw [← hH1]; exact But.updA)

        refine ⟨by omega, ?_⟩
        generalize e4 : Int.fmod _ _ = r
        obtain ⟨a4, b4⟩ := fm (by omega) e4
        exact q _ _ ⟨⟨cells, pos', v / m, turn', seed, ha1, hc1, h0', Int.ediv_nonneg hv' (by omega)⟩, nca⟩ b1 ⟨r, rfl, a4, .inl b4⟩
end
end K01
namespace K01
open PySem PySem.Spec PyProof.Rows L2
local macro_rules | `(tactic| walk_at "rd") => `(tactic| simp only [start1, wipe, isR, isBool, isInt, isStr, isLst, isTup, tAsg, gName, gSub, tVar, tC, tOp, tUn, tTest, tIfS, tRet, tRetN, tDrop, tB, tAnd, tOr, tNot, tAndV, tOrV, tNotV, tIf, tCB, tCons, tNil, tNext, tCall, tBM, tTup, tLst, rI0, rI, rEq, rNe, scal, forR_eq, forR2_eq, forS_eq, forL_eq, lcL_eq, lcR_eq, lcS_eq, rLenX, rLenS, rMulS, rRepL, rCatL, tPart, tNoPart, CwR.tReplC, rAllK, rInSg, rNinSg, sgn_inj, rAddS, rInSt, tChain, tM1, tM0, rSplitN, rJoinN, exists_eq, rIntI, rIntB, rIntS, rStrI, rAbs, rOrd, rMin, rMax, rIxL, rIxX, rSetL, rAppend, rIxS, rSlS, rSlL, tSl, List.map_cons, List.map_nil, List.replicate_succ, List.replicate_zero, List.length_cons, List.length_nil, Nat.reduceSub, Nat.reduceAdd, Nat.zero_add, Nat.sub_self, List.getElem?_cons_zero, List.getElem?_cons_succ, List.set_cons_zero, List.set_cons_succ, List.append_nil, List.nil_append, List.cons_append, Option.some.injEq, not_true_eq_false, reduceCtorEq, exists_eq_left', exists_eq_left, exists_eq', exists_and_left, exists_and_right, V.int.injEq, V.str.injEq, V.bl.injEq, V.ref.injEq, List.cons.injEq, and_true, true_and, and_assoc, decide_eq_true_eq, Bool.not_eq_true', decide_eq_false_iff_not, ite_true, ite_false, if_true, if_false, Bool.not_true, Bool.not_false, Bool.false_eq_true, eq_self_iff_true, reduceIte, ne_eq, Int.reduceEq, not_false_eq_true])
local macro_rules | `(tactic| walk_at "rt") => `(tactic| try walk_at "rd")
local macro_rules | `(tactic| walk_at "st") => `(tactic| (walk_at "rt"; refine r_seq ?_; walk_at "rt"))
local macro_rules | `(tactic| walk_at "hp") => `(tactic| first | assumption | exact upd_same | (rw [upd_ne (by assumption)]; walk_at "hp"))
local macro_rules | `(tactic| walk_at "ex1") => `(tactic| ((with_reducible refine Exists.intro ?w (And.intro ?hx ?_)); (case hx => first | exact sq_of (by walk_at "hp") | exact .inl (sq_of (by walk_at "hp")) | exact rfl | (show _ = some (HO.lst _); walk_at "hp"))))
local macro_rules | `(tactic| walk_at "ex") => `(tactic| repeat (first | walk_at "ex1" | walk_at "rd"))
abbrev s_store : Stmt := topS 51
theorem sc_store : FnScope ["script", "cell", "cells", "seed"] ["script"] (defScope s_store) := ⟨rfl, rfl, rfl, by decide +kernel, rfl, by decide +kernel, by decide +kernel⟩
abbrev s_signsoftexts : Stmt := topS 59
theorem sc_signsoftexts : FnScope ["found"] [] (defScope s_signsoftexts) := ⟨rfl, rfl, rfl, by decide +kernel, rfl, by decide +kernel, by decide +kernel⟩
def spStore (K : PySem.W.Frag) : Sp := fun vs H Q _ => ∃ (s : Addr) (ns : List Int), vs = [.ref s] ∧ SqL K H s (ns.map V.int) ∧ ns.length ≤ 63 ∧ ∀ (a c : Addr) (H' : Hp), Same H H' → H a = none → StoreAt H' a c → Q (.ref a) H'
def spPick : Sp := fun vs H Q _ => ∃ (a c : Addr) (z : Str), vs = [.ref a, .str z] ∧ StoreAt H a c ∧ z.cps.toList ≠ [] ∧ z.length ≤ 1000 ∧ Drawn H a c (fun v => ∃ k, k ∈ z.cps.toList ∧ v = .str ⟨#[k]⟩) Q
def spChance : Sp := fun vs H Q _ => ∃ (a c : Addr) (m : Int), vs = [.ref a, .int m] ∧ StoreAt H a c ∧ m ≤ 2 ^ 70 ∧ Drawn H a c (fun v => ∃ b, v = .bl b) Q
/-- a number from low to high -/
def Within (lo hi : Int) (v : V) : Prop := ∃ r : Int, v = .int r ∧ lo ≤ r ∧ r ≤ hi
def spRange : Sp := fun vs H Q _ => ∃ (a c : Addr) (lo hi : Int), vs = [.ref a, .int lo, .int hi] ∧ StoreAt H a c ∧ lo ≤ hi ∧ hi - lo < 2 ^ 70 ∧ Drawn H a c (Within lo hi) Q
theorem Drawn.mono {H H1 : Hp} {a c : Addr} {R R' : V → Prop} {Q : VK} (b : But a H H1) (k : ∀ v, R' v → R v) (q : Drawn H a c R Q) : Drawn H1 a c R' Q := fun v H' s b' r => q v H' s (b.trans b') (k v r)
theorem drawn_at {H H1 : Hp} {a c : Addr} {R : V → Prop} {Q : VK} {v : V} (q : Drawn H a c R Q) (S : StoreAt H1 a c) (b : But a H H1) (r : R v) : Q v H1 := q v H1 S b r
section
variable {P : Program} {w : World} {K : PySem.W.Frag} {mg : Str → Option Value} {base : Heap}
theorem ok_store {f : Addr} {fd : FuncData} (B : Bi mg) (D : Dn K mg "_law_store" s_store ["script"] f fd) : FnOk P w K mg base CX0 1 f fd ["script"] (spStore K) := by
  refine D.F.ok sc_store (fun vs H Q E h => ?_) (fun cdv A outer s H vs Q E hr h => ?_)
  · obtain ⟨a, ns, rfl, _⟩ := h
    rfl
  · obtain ⟨a, ns, rfl, S, hl, q⟩ := h
    refine ⟨_, (pss_cons (ps_setLc (i := 2) (own := [("cell", 1)]) (g := gName 1) (tt := tYes) (by rfl) sc_store.nd rfl rfl (sw_true rfl rfl rfl (by decide +kernel)) (pi_listK (K := K) (pv 0)) (blkOk_by (own := [("cell", 1)]) (N := ["script", "cell", "cells", "seed"]) (sc := defScope s_store) (by decide +kernel)) (fun _ _ _ _ _ => pg_name (i := 1) sc_store.nd rfl (Or.inl rfl)) (fun _ _ _ _ _ => pts_nil) (fun _ _ _ _ _ => (pe_callTy call_intI (by rfl) B.int_ (by decide +kernel) (pa_cons (pv 1) pa_nil))))
      (pss_cons (ps_set (i := 3) sc_store.nd rfl (.inl rfl) (pe_op op_add pe_int (pe_callB (call_lenXK (K := K)) (by rfl) B.len PySem.boot_len (pa_cons (pv 2) pa_nil))))
      (pss_cons (ps_for PassesOwn.never rfl (pi_listK (K := K) (pv 2)) (pg_name (i := 1) sc_store.nd rfl (.inl rfl)) (pss_one (ps_set (i := 3) sc_store.nd rfl (.inl rfl) (pe_op op_modN (pe_callTy call_intI (by rfl) B.int_ (by decide +kernel) (pa_cons (pe_op op_add (pe_op op_mul (pv 3) pe_int) (pe_op op_modN (pe_callTy call_intI (by rfl) B.int_ (by decide +kernel) (pa_cons (pv 1) pa_nil)) pe_int)) pa_nil)) pe_int))))
      (pss_one (ps_ret (pe_lst (pa_cons (pv 2) (pa_cons pe_int (pa_cons pe_int (pa_cons pe_int (pa_cons (pv 3) pa_nil))))))))))), ?_⟩
    refine r_seq ?_
    refine ⟨_, rfl, a, rfl, ⟨_, S⟩, fun c nc => ?_⟩
    refine r_lcL (K := K) (a := a) (ns.map V.int) (fun i H' => But c H H' ∧ H' c = some (.lst ((ns.take i).map V.int))) (fun _ => rfl) ⟨But.updA, upd_same⟩ (fun i H' _ h => (h.1.same nc).seq S) ?_ ?_
    · rintro i x H' hx ⟨sm, hc⟩ N k
      obtain ⟨z, hz, rfl⟩ := map_get hx
      have hi := lt_of_get hz
      have hw : wipe [some (V.ref a), none, none, none] [1] = [some (V.ref a), none, none, none] := rfl
      show tCB _ _ [some (V.ref a), some (V.int z), none, none] _ _
      walk_at "rt"
      refine k _ _ _ hc ?_ ⟨sm.trans But.updA, ?_⟩
      · rw [List.length_map, List.length_take]; exact small1000 (by omega)
      · rw [upd_same, take_map hz]
    · rintro H1 ⟨sm, hc⟩
      rw [List.length_map, List.take_length] at hc
      walk_at "rt"
      walk_at "st"
      walk_at "ex"
      refine r_seq ?_
      refine ⟨_, rfl, c, rfl, ⟨_, sq_of hc⟩, ?_⟩
      refine r_list (K := K) (a := c) (ns.map V.int) (fun i σ H' => (∃ (z : Int) (x : Option V), σ = [some (.ref a), x, some (.ref c), some (.int z)]) ∧ H' = H1) ⟨⟨_, _, rfl⟩, rfl⟩ (fun i σ H' _ h => by rw [h.2]; exact sq_of hc) ?_ ?_
      · rintro i x σ H' hx ⟨⟨z, y, rfl⟩, rfl⟩ N k
        obtain ⟨t, ht, rfl⟩ := map_get hx
        walk_at "rt"
        exact ⟨.inr ⟨by decide, by decide⟩, k _ _ ⟨⟨_, _, rfl⟩, rfl⟩⟩
      · rintro σ H' ⟨⟨z, y, rfl⟩, rfl⟩
        walk_at "rt"
        refine ⟨by decide, fun p np => ?_⟩
        have np0 : H p = none := (sm.same nc).free np
        have ncp : c ≠ p := ne_of_none hc np
        exact q p c _ ((sm.same nc).trans (Same.new np)) np0 ⟨⟨ns, 0, 0, 0, z, upd_same, by rw [upd_ne ncp]; exact hc, by decide, by decide⟩, ncp⟩
end
end K01
namespace K01
open PySem PySem.Spec PyProof.Rows L2
local macro_rules | `(tactic| walk_at "rd") => `(tactic| simp only [start1, wipe, isR, isBool, isInt, isStr, isLst, isTup, tAsg, gName, gSub, tVar, tC, tOp, tUn, tTest, tIfS, tRet, tRetN, tDrop, tB, tAnd, tOr, tNot, tAndV, tOrV, tNotV, tIf, tCB, tCons, tNil, tNext, tCall, tBM, tTup, tLst, rI0, rI, rEq, rNe, scal, forR_eq, forR2_eq, forS_eq, forL_eq, lcL_eq, lcR_eq, lcS_eq, rLenX, rLenS, rMulS, rRepL, rCatL, tPart, tNoPart, CwR.tReplC, rAllK, rInSg, rNinSg, sgn_inj, rAddS, rInSt, tChain, tM1, tM0, rSplitN, rJoinN, exists_eq, rIntI, rIntB, rIntS, rStrI, rAbs, rOrd, rMin, rMax, rIxL, rIxX, rSetL, rAppend, rIxS, rSlS, rSlL, tSl, List.map_cons, List.map_nil, List.replicate_succ, List.replicate_zero, List.length_cons, List.length_nil, Nat.reduceSub, Nat.reduceAdd, Nat.zero_add, Nat.sub_self, List.getElem?_cons_zero, List.getElem?_cons_succ, List.set_cons_zero, List.set_cons_succ, List.append_nil, List.nil_append, List.cons_append, Option.some.injEq, not_true_eq_false, reduceCtorEq, exists_eq_left', exists_eq_left, exists_eq', exists_and_left, exists_and_right, V.int.injEq, V.str.injEq, V.bl.injEq, V.ref.injEq, List.cons.injEq, and_true, true_and, and_assoc, decide_eq_true_eq, Bool.not_eq_true', decide_eq_false_iff_not, ite_true, ite_false, if_true, if_false, Bool.not_true, Bool.not_false, Bool.false_eq_true, eq_self_iff_true, reduceIte, ne_eq, Int.reduceEq, not_false_eq_true])
local macro_rules | `(tactic| walk_at "rt") => `(tactic| try walk_at "rd")
local macro_rules | `(tactic| walk_at "st") => `(tactic| (walk_at "rt"; refine r_seq ?_; walk_at "rt"))
local macro_rules | `(tactic| walk_at "hp") => `(tactic| first | assumption | exact upd_same | (rw [upd_ne (by assumption)]; walk_at "hp"))
local macro_rules | `(tactic| walk_at "ex1") => `(tactic| ((with_reducible refine Exists.intro ?w (And.intro ?hx ?_)); (case hx => first | exact sq_of (by walk_at "hp") | exact .inl (sq_of (by walk_at "hp")) | exact rfl | (show _ = some (HO.lst _); walk_at "hp"))))
local macro_rules | `(tactic| walk_at "ex") => `(tactic| repeat (first | walk_at "ex1" | walk_at "rd"))
section
variable {P : Program} {w : World} {K : PySem.W.Frag} {mg : Str → Option Value} {base : Heap}
theorem line_of {n : Nat} (h : n ≤ 16777216) : n ≤ sizeLine := by rw [PySem.sizeLine_eq]; exact h
theorem ok_pick {f f_take : Addr} {fd fd_take : FuncData} (B : Bi mg) (D : Dn K mg "_law_pick" s_pick ["store", "row"] f fd) (D_take : Dn K mg "_law_take" s_take ["store", "many"] f_take fd_take)
    (G_take : FnOk P w K mg base CX0 2 f_take fd_take ["store", "many"] spTake) : FnOk P w K mg base CX0 3 f fd ["store", "row"] spPick := by
  refine D.F.ok sc_pick (fun vs H Q E h => ?_) (fun cdv A outer s H vs Q E hr h => ?_)
  · obtain ⟨a, c, z, rfl, _⟩ := h
    rfl
  · obtain ⟨a, c, z, rfl, S, hne, hl, q⟩ := h
    refine ⟨_, (pss_cons (ps_if (pt_cmpR op_eq (pe_callB call_lenS (by rfl) B.len PySem.boot_len (pa_cons (pv 1) pa_nil)) pe_int (nomark _)) (pss_one (ps_ret pe_non)) pss_nil)
      (pss_one (ps_ret (pe_ix ix_str (pv 1) (pe_call G_take (hr.mono (by omega)) (by rfl) D_take.g D_take.F.kp D_take.b .nil pass0 (pa_cons (pv 0) (pa_cons (pe_callB call_lenS (by rfl) B.len PySem.boot_len (pa_cons (pv 1) pa_nil)) pa_nil))) (fun _ _ => rfl))))), ?_⟩
    have hz : z.cps.toList.length = z.length := rfl
    have hp : 0 < z.length := by
      rw [← hz]
      exact List.length_pos_iff.mpr hne
    walk_at "st"
    refine ⟨line_of (by omega), ite2 (fun e => absurd e (by omega)) (fun _ => ?_)⟩
    walk_at "rt"
    refine ⟨line_of (by omega), a, c, _, rfl, S, by omega, fun v H' S' b' ⟨r, e, r0, r1⟩ => ?_⟩
    subst e
    walk_at "rt"
    obtain ⟨k, hk, hk2⟩ := atI_get (xs := z.cps.toList) (i := r) r0 (by omega)
    exact ⟨line_of (by omega), k, hk, q _ _ S' b' ⟨k, List.mem_of_getElem? hk2, rfl⟩⟩
theorem ok_chance {f f_take : Addr} {fd fd_take : FuncData} (B : Bi mg) (D : Dn K mg "_law_chance" s_chance ["store", "many"] f fd) (D_take : Dn K mg "_law_take" s_take ["store", "many"] f_take fd_take)
    (G_take : FnOk P w K mg base CX0 2 f_take fd_take ["store", "many"] spTake) : FnOk P w K mg base CX0 3 f fd ["store", "many"] spChance := by
  refine D.F.ok sc_chance (fun vs H Q E h => ?_) (fun cdv A outer s H vs Q E hr h => ?_)
  · obtain ⟨a, c, z, rfl, _⟩ := h
    rfl
  · obtain ⟨a, c, m, rfl, S, hm, q⟩ := h
    refine ⟨_, (pss_one (ps_ret (pe_cmpR op_eq (pe_call G_take (hr.mono (by omega)) (by rfl) D_take.g D_take.F.kp D_take.b .nil pass0 (pa_cons (pv 0) (pa_cons (pv 1) pa_nil))) pe_int (nomark _)))), ?_⟩
    walk_at "rt"
    refine ⟨a, c, _, rfl, S, hm, fun v H' S' b' ⟨r, e, r0, r1⟩ => ?_⟩
    subst e
    walk_at "rt"
    exact q _ _ S' b' ⟨_, rfl⟩
theorem ok_number {f f_take f_chance : Addr} {fd fd_take fd_chance : FuncData} (B : Bi mg) (D : Dn K mg "_law_number" s_number ["store", "low", "high"] f fd) (D_take : Dn K mg "_law_take" s_take ["store", "many"] f_take fd_take)
    (D_chance : Dn K mg "_law_chance" s_chance ["store", "many"] f_chance fd_chance)
    (G_take : FnOk P w K mg base CX0 2 f_take fd_take ["store", "many"] spTake) (G_chance : FnOk P w K mg base CX0 3 f_chance fd_chance ["store", "many"] spChance) : FnOk P w K mg base CX0 4 f fd ["store", "low", "high"] spRange := by
  refine D.F.ok sc_number (fun vs H Q E h => ?_) (fun cdv A outer s H vs Q E hr h => ?_)
  · obtain ⟨a, c, lo, hi, rfl, _⟩ := h
    rfl
  · obtain ⟨a, c, lo, hi, rfl, S, hlh, hw, q⟩ := h
    refine ⟨_, (pss_cons (ps_set (i := 3) sc_number.nd rfl (.inl rfl) (pe_call G_take (hr.mono (by omega)) (by rfl) D_take.g D_take.F.kp D_take.b .nil pass0 (pa_cons (pv 0) (pa_cons pe_int pa_nil))))
      (pss_cons (ps_if (pt_cmpR op_eq (pv 3) pe_int (nomark _)) (pss_one (ps_ret (pv 1))) pss_nil)
      (pss_cons (ps_if (pt_cmpR op_eq (pv 3) pe_int (nomark _)) (pss_one (ps_ret (pv 2))) pss_nil)
      (pss_cons (ps_if (pt_cmpR op_eq (pv 3) pe_int (nomark _)) (pss_cons (ps_if (pt_val (pe_call G_chance (hr.mono (by omega)) (by rfl) D_chance.g D_chance.F.kp D_chance.b .nil pass0 (pa_cons (pv 0) (pa_cons pe_int pa_nil)))) (pss_one (ps_ret (pe_callB (call_minI rfl) (by rfl) B.min (by decide +kernel) (pa_cons (pe_op op_add (pv 1) pe_int) (pa_cons (pv 2) pa_nil))))) pss_nil)
      (pss_one (ps_ret (pe_callB (call_maxI rfl) (by rfl) B.max (by decide +kernel) (pa_cons (pe_op op_sub (pv 2) pe_int) (pa_cons (pv 1) pa_nil)))))) pss_nil)
      (pss_one (ps_ret (pe_op op_add (pv 1) (pe_call G_take (hr.mono (by omega)) (by rfl) D_take.g D_take.F.kp D_take.b .nil pass0 (pa_cons (pv 0) (pa_cons (pe_op op_add (pe_op op_sub (pv 2) (pv 1)) pe_int) pa_nil)))))))))), ?_⟩
    walk_at "st"
    refine ⟨a, c, _, rfl, S, by decide, fun v H1 S1 b1 ⟨r, e, r0, r1⟩ => ?_⟩
    subst e
    walk_at "st"
    refine ite2 (fun _ => q _ _ S1 b1 ⟨_, rfl, by omega, by omega⟩) (fun _ => ?_)
    walk_at "st"
    refine ite2 (fun _ => q _ _ S1 b1 ⟨_, rfl, by omega, by omega⟩) (fun _ => ?_)
    walk_at "st"
    refine ite2 (fun _ => ?_) (fun _ => ?_)
    · walk_at "st"
      refine ⟨a, c, _, rfl, S1, by decide, fun v H2 S2 b2 ⟨k, e⟩ => ?_⟩
      subst e
      walk_at "rt"
      refine ite2 (fun _ => q _ _ S2 (b1.trans b2) ⟨_, rfl, by split <;> omega, by split <;> omega⟩) (fun _ => q _ _ S2 (b1.trans b2) ⟨_, rfl, by split <;> omega, by split <;> omega⟩)
    · walk_at "rt"
      refine ⟨a, c, _, rfl, S1, by omega, fun v H2 S2 b2 ⟨k, e, k0, k1⟩ => ?_⟩
      subst e
      walk_at "rt"
      exact q _ _ S2 (b1.trans b2) ⟨_, rfl, by omega, by omega⟩
end
end K01
/-! a list comprehension where p's exception is handled -/
namespace HotLc
open PySem PySem.Spec PyProof.Rows L2 L2H
/-- the block's context, p pinned in it -/
abbrev hbk (X : Cx) (p : Addr × Obj) (s : Shared) (H : Hp) (sc : Scope) (ce : Env) (fp : List Addr) : Cx := (X.blk s H sc ce fp).tr [p] (fun _ _ => False)
theorem hot_hbk {X : Cx} {p : Addr × Obj} {s : Shared} {H : Hp} {sc : Scope} {ce : Env} {fp : List Addr} (hot : Hot1 X.A p) : HotC (hbk X p s H sc ce fp) := ⟨p, hot, List.mem_singleton.mpr rfl⟩
section
variable {X : Cx} {elt tg iter : Expr} {ifs : List Expr} {scope : Scope} {own : List (Str × Nat)} {pos : Pos} {wi : TI} {g : TG} {tt : TT} {te : TE}
/-- what the block's pieces are to be -/
structure Parts (X : Cx) (p : Addr × Obj) (scope : Scope) (elt tg : Expr) (ifs : List Expr) (g : TG) (tt : TT) (te : TE) : Prop where
  tgt : ∀ s H C cl fp, PG (hbk X p s H scope (compEnvC scope cl C X.env) fp) tg g
  tst : ∀ s H C cl fp, PTs (hbk X p s H scope (compEnvC scope cl C X.env) fp) ifs tt
  elm : ∀ s H C cl fp, PE (hbk X p s H scope (compEnvC scope cl C X.env) fp) elt te
/-- the state at a turn's head -/
def Head (B : Cx) (fp : List Addr) (tn : Nat → Heap → Prop) (W : Nat → Nat → Hp → Prop) (ω : L2.St) (n : Nat) (z : Shared) : Prop :=
  ∃ k G, W k n G ∧ Inv B [] ω G z ∧ tn k z.heap ∧ ∀ b ∈ fp, G b = none
theorem pe_lcH (hc : HotC X) (hN : X.N.Nodup) (hi : PIH X tg iter wi) (ok : BlkOk X.N X.env.scope scope own) (parts : ∀ p, Hot1 X.A p → Parts X p scope elt tg ifs g tt te)
    (hs : ∀ x, foldedSetIterable iter X.env x = pure x := by intro _; rfl) : PE X (.ListComp elt [⟨tg, iter, ifs, 0⟩] scope pos) (tLc wi g tt te (own.map (·.2))) := by
  obtain ⟨p, hot, inX⟩ := hc
  have P := parts p hot
  refine ⟨fun pins s σ H Q I want => ?_⟩
  rw [eval_ListComp]
  have caught : ∀ y ∈ scope.names, y.2 = .free → ∃ c, X.env.cells.lookup y.1 = some c := by
    intro y hy hf
    exact I.ok.has y.1 (ok.free y hy hf)
  refine wpAny_comprehension_free rfl hs (closure_ok caught) ok.kind (fun y hy e => (ok.uniq y hy).trans (congrArg some e)) ?_
  refine thn (hi.run pins s σ H _ I want) fun src sA hA => thn hA fun itv sB hB => ?_
  obtain ⟨it, fp, tn, J, HB, hit, IB, T, tB, fB, more⟩ := hB
  refine wpAny_newObj_type (newEnv_comp ?_) (Nat.zero_le sizeLine)
  -- the list that is made
  have nD : HB sB.heap.objs.size = none := IB.hok.fresh (Nat.le_refl _)
  obtain ⟨W, ⟨n0, w0⟩, turn⟩ := more _ nD
  obtain ⟨HC, eHC⟩ : ∃ G : Hp, G = L2.upd HB sB.heap.objs.size (.lst []) := ⟨_, rfl⟩
  obtain ⟨sC, eC⟩ : ∃ z : Shared, z = { sB with heap := sB.heap.push { cls := .type "list", data := .seq ([] : List Value).toArray } } := ⟨_, rfl⟩
  rw [← eHC] at w0
  have hpC : sC.heap = sB.heap.push { cls := .type "list", data := .seq ([] : List Value).toArray } := by rw [eC]
  have keepC : ∀ b o, sB.heap.get? b = some o → sC.heap.get? b = some o := by
    intro b o e
    rw [hpC]
    exact Heap.get?_push_of_some _ e
  have IC : Inv X pins σ HC sC := by
    rw [eHC, eC]
    refine IB.laid (t' := sB.toks) (fun b o e => Heap.get?_push_of_some _ e) (Nat.le_refl _) ⟨Nat.zero_le _, [], 0, .nil, ?_⟩
    exact Heap.get?_push_size _ rfl
  have small : ∀ b ∈ fp, b < sB.heap.objs.size := by
    intro b hb
    obtain ⟨o, e, _⟩ := T.obj _ _ tB b hb
    exact Heap.lt_size e
  have fC : ∀ b ∈ fp, FpOk X pins HC b ∧ b < sC.heap.objs.size := by
    intro b hb
    have lt := small b hb
    refine ⟨⟨?_, (fB b hb).2⟩, ?_⟩
    · rw [eHC, upd_ne (Nat.ne_of_lt lt)]
      exact (fB b hb).1
    · rw [hpC, Heap.size_push]
      exact Nat.lt_succ_of_lt lt
  -- the block begins
  have IB0 := block_start IC ok hN fC
  have pB := IC.pin p (List.mem_append_left _ inX)
  have pt := P.tst sC HC sC.heap.objs.size (cellsFrom (sC.heap.objs.size + 1) scope.names (cloFrom X.env.cells scope.names [])) fp
  have pg := P.tgt sC HC sC.heap.objs.size (cellsFrom (sC.heap.objs.size + 1) scope.names (cloFrom X.env.cells scope.names [])) fp
  have pe := P.elm sC HC sC.heap.objs.size (cellsFrom (sC.heap.objs.size + 1) scope.names (cloFrom X.env.cells scope.names [])) fp
  rw [hit, ← eC]
  obtain ⟨ce, eE⟩ : ∃ e : Env, e = compEnvC scope (cellsFrom (sC.heap.objs.size + 1) scope.names (cloFrom X.env.cells scope.names [])) sC.heap.objs.size X.env := ⟨_, rfl⟩
  rw [← eE] at IB0 pt pg pe
  have eL : ce.locals = sC.heap.objs.size := by rw [eE]; rfl
  have IE : Inv (hbk X p sC HC scope ce fp) [] (wipe σ (own.map (·.2))) HC { sC with heap := pushCells (sC.heap.push { cls := .type "dict", data := .dict #[] }) scope.names } := by
    refine (IB0.pins_of (pins' := [p]) fun q hq => ?_).toTry _
    obtain rfl := List.mem_singleton.mp hq
    refine ⟨pushCells_keeps _ _ _ _ (Heap.get?_push_of_some _ pB.1), pB.2.1, ?_, ?_, pB.2.2.2.2⟩
    · show q.1 ≠ ce.locals
      rw [eL]
      exact Nat.ne_of_lt (Heap.lt_size pB.1)
    · intro hm
      rcases List.mem_cons.mp (IC.stkSub q.1 hm) with z | z
      · exact pB.2.2.1 z
      · exact pB.2.2.2.1 z
  have clean : ∀ {ω : L2.St} {G : Hp} {z : Shared}, Inv (hbk X p sC HC scope ce fp) [] ω G z → (∀ b ∈ fp, G b = none) → ∀ b ∈ fp, FpOk (hbk X p sC HC scope ce fp) [] G b := by
    intro ω G z IZ gn b hb
    refine ⟨gn b hb, (IZ.ok.exf b hb).1, IZ.ok.exfs b hb, .inl hb, fun x c e => (IZ.ok.exf b hb).2 x c e, fun q hq => ?_⟩
    obtain rfl : q = p := by simpa using hq
    exact (fC b hb).1.2.2.2.2.2 _ (List.mem_append_left _ inX)
  obtain ⟨sE, eS⟩ : ∃ z : Shared, z = { sC with heap := pushCells (sC.heap.push { cls := .type "dict", data := .dict #[] }) scope.names } := ⟨_, rfl⟩
  rw [← eS] at IE
  have tE : tn 0 sE.heap := by
    refine T.keep _ _ _ tB fun b _ o e => ?_
    rw [eS]
    exact pushCells_keeps _ _ _ _ (Heap.get?_push_of_some _ (keepC b o e))
  have run : codeAny (model X.prog X.w) X.A (.compLoop (.ListComp elt [⟨tg, iter, ifs, 0⟩] scope pos) 0 (.ref it) (.ref sB.heap.objs.size) ce) (compPost (model X.prog X.w) X.A X.xe none (EP X pins σ Q) (.ref sB.heap.objs.size) sC.heap.objs.size) sE := by
    refine compLoop_any (Head (hbk X p sC HC scope ce fp) fp tn W (wipe σ (own.map (·.2)))) ?_ n0 ⟨0, HC, w0, IE, tE, fun b hb => (fC b hb).1.1⟩
    rintro n z ⟨k, G, w, IZ, tz, gn⟩
    have cz := clean IZ gn
    cases turn k n G w with
    | inl e =>
      refine thnF (T.done (hbk X p sC HC scope ce fp) rfl rfl rfl (hot_hbk hot) k [] z _ G (fun _ _ => False) IZ cz tz e.1) fun r y hy => ?_
      obtain ⟨hr, IY⟩ := hy
      subst hr
      have IX : Inv X pins σ G y := IC.call' (ch := fp) IY.os IY.base IY.hok IY.bare fun b hb => by
        obtain ⟨_, f1, f2, f3, f4, f5⟩ := (fC b hb).1
        exact ⟨f3, f1, f4, f5⟩
      have nC : G sC.heap.objs.size = none := eL ▸ IY.free
      obtain ⟨m, hm, _⟩ := IY.loc
      refine ⟨m, eL ▸ hm, fun h' sb => ?_⟩
      obtain ⟨f0, f1, f2, f3, f4, f5⟩ := IC.fpOk (Nat.le_refl _) nC
      exact ⟨V.ref sB.heap.objs.size, G, IX.turned (t' := y.toks) (fun b o hb e' => (sb.2 b hb).trans e') f0 f1 f3 f4 f5, rfl, e.2⟩
    | inr e =>
      obtain ⟨go, Nx, next, step⟩ := e
      refine thnF (T.item (hbk X p sC HC scope ce fp) rfl rfl rfl (hot_hbk hot) k [] z _ G (fun _ _ => False) IZ cz tz go) fun r y hy => ?_
      obtain ⟨u, hr, hy⟩ := hy
      subst hr
      refine thnF hy fun _ y1 hy1 => ?_
      obtain ⟨x, G1, I1, rx, yl, t1, g1⟩ := hy1
      have I2 := I1.pinned (clean I1 g1) (T.obj _ _ t1)
      refine thnF (pg.run _ y1 _ G1 x u _ I2 rx (step x G1 yl)) fun _ y2 hy2 => ?_
      obtain ⟨ω, G2, I3, same, q3⟩ := hy2
      refine thnF (pt.run _ y2 ω G2 _ I3 q3) fun b y3 hy3 => ?_
      obtain ⟨G3, I4, q4⟩ := hy3
      have close : ∀ {y' : Shared} {G' : Hp}, Inv (hbk X p sC HC scope ce fp) ([] ++ pinsAt fp y1.heap) ω G' y' → Nx G' → ∃ m, m < n ∧ Head (hbk X p sC HC scope ce fp) fp tn W (wipe σ (own.map (·.2))) m y' := by
        intro y' G' I' nx
        obtain ⟨m, lt, w'⟩ := next G' nx
        have stay : ∀ b ∈ fp, ∀ o, y1.heap.get? b = some o → y'.heap.get? b = some o ∧ G' b = none := by
          intro b hb o e'
          have z' := I'.pin (b, o) (List.mem_append_right _ (List.mem_append_right _ (mem_pinsAt hb e')))
          exact ⟨z'.1, z'.2.1⟩
        have len : (wipe σ (own.map (·.2))).length = ω.length := by rw [← same, wipe_length]
        refine ⟨m, lt, k + 1, G', w', (I'.unpinned (pins := [])).weak len (fun j v e' => ?_), T.keep _ _ _ t1 fun b hb o e' => (stay b hb o e').1, fun b hb => ?_⟩
        · rw [← same] at e'
          exact (wipe_some e').1
        · obtain ⟨o, e', _⟩ := T.obj _ _ t1 b hb
          exact (stay b hb o e').2
      cases b with
      | true =>
        have q4 : te ω G3 _ := q4
        refine thnF (pe.run _ y3 ω G3 _ I4 q4) fun v y4 hy4 => ?_
        obtain ⟨yv, G4, I5, ry, acc, hD, hz, nx⟩ := hy4
        exact app_ok (X := hbk X p sC HC scope ce fp) I5 hD hz ry fun y5 I6 => close I6 nx
      | false => exact close I4 q4
  rw [eE, eS] at run
  rw [eS] at tE
  exact codeAny_compStart_list run (T.self X.A 0 _ _ _ tE run)
end
end HotLc
/-! a def that is handed the exception which is handled; isinstance of it -/
namespace HotExc
open PySem PySem.Spec PyProof.Rows L2 L2H
/-- isinstance(e, c), e an exception that stands pinned, its own dict (where it has one) tracked -/
def rIsP (K : PySem.W.Frag) (D a : Addr) (d : Option Addr) (xs : List V) (H : Hp) (Q : VK) : Prop :=
  ∃ c, xs = [.ref a, c] ∧ ∃ cv : Value, (∀ u, RelV c u → u = cv) ∧ ∃ b, PySem.W.kitOne K (.ref D) cv = some b ∧ (∀ dx, d = some dx → ∃ fs, H dx = some (.xd fs)) ∧ Q (.bl b) H
theorem call_isP {X : Cx} {a D : Addr} {oe : Obj} {d : Option Addr} (C : ExcC X.K D) (hp : (a, oe) ∈ X.pn) (hz : Zc (.ref D) d oe) (hf : ∃ vs, oe.data = .fields vs) : CallR X (.builtin "isinstance") (rIsP X.K D a d) := by
  intro pins s σ H xs us Q I r want
  obtain ⟨c, rfl, cv, only, b, hb, hd, q⟩ := want
  match us, r with
  | [u, u2], .cons ru (.cons r2 .nil) =>
    obtain rfl : u = Value.ref a := ru
    obtain rfl := only _ r2
    have pinned := (I.pin (a, oe) (List.mem_append_left _ hp)).1
    obtain ⟨vs, hv⟩ := hf
    have nc : PySem.W.notCls oe = true := by
      unfold PySem.W.notCls
      rw [hv]
    have J : ∃ od, PySem.W.InstAt s.heap a oe D od := by
      cases d with
      | none => exact ⟨none, pinned, hz.1, nc, by rw [hz.2]; trivial⟩
      | some dx =>
        obtain ⟨fs, e⟩ := hd dx rfl
        have ob : ObjOk X.prog X.w H s.heap dx (.xd fs) := I.hok dx _ e
        obtain ⟨mA, hns, _⟩ := ob
        obtain ⟨od, ho, _⟩ := lookIn_ns hns
        exact ⟨some od, pinned, hz.1, nc, by rw [hz.2]; exact ho⟩
    obtain ⟨od, J⟩ := J
    have hcl : (PySem.W.clsIn X.K D).isSome = true := by
      obtain ⟨cd, hc, _⟩ := PySem.W.any_some C.hd
      rw [hc]
      rfl
    exact PySem.W.kia_one (PySem.W.kitx_exc hcl C.hg C.hk C.hs C.ha C.hn C.ht C.hm) I.kIn J hb (fun z => nomatch z) fun tk => ⟨.bl b, H, I.kept (t' := tk) fun _ _ z => z, rfl, q⟩
/-- what a def promises that is called while p's exception is handled, and is told of it -/
structure FnE (P : Program) (w : World) (K : PySem.W.Frag) (mg : Str → Option Value) (base : Heap) (CX : CXT) (k : Nat) (f : Addr) (fd : FuncData) (ps : List Str) (sp : Addr × Obj → Sp) : Prop where
  size : ∀ p vs H Q E, sp p vs H Q E → vs.length = ps.length
  go : ∀ (p : Addr × Obj) (A : Around) (outer : List Env) (s : Shared) (H : Hp) (us : List Value) (vs : List V) (Q : VK) (E : XK), RoomH k A → Hot1 A p → PinOk outer H s p → Env0 P w K mg base A outer s H → BindsTo s fd ⟨us, []⟩ (ps.zip us) → Vals vs us → sp p vs H Q E →
    codeAny (model P w) A (.call (.ref f) ⟨us, []⟩) (CR CX outer P w H s Q E) s
theorem FnE.of {CX : CXT} {P : Program} {w : World} {K : PySem.W.Frag} {mg : Str → Option Value} {base : Heap} {k : Nat} {x qual : Str} {st : Stmt} {f : Addr} {fd : FuncData} {N ps : List Str} {sp : Addr × Obj → Sp} (F : Fun K x qual st f fd) (S : FnScope N ps (defScope st))
    (size : ∀ p vs H Q E, sp p vs H Q E → vs.length = ps.length)
    (body : ∀ (p : Addr × Obj) (cdv : Value) (A : Around) (outer : List Env) (s : Shared) (H : Hp) (vs : List V) (Q : VK) (E : XK), Hot1 A p → RoomH k (A.deeper (envOfC qual (defScope st) s.heap.objs.size f cdv)) → sp p vs H Q E →
      ∃ t, PSs (cxH CX P w K mg base N qual (defScope st) f cdv A outer s H E p) (defBody st) t ∧ t { nx := fun _ H' => Q .non H', rt := Q } (L2.start N vs) H) : FnE P w K mg base CX (k + 1) f fd ps sp := by
  obtain ⟨oc, od, kV, doc, pm, an, cdv, ct, osl, rfl, lk, hcd⟩ := F.ex
  refine ⟨size, ?_⟩
  intro p A outer s H us vs Q E room hot pin e0 hb r want
  have n := size _ _ _ _ _ want
  have inK : K.In s.heap := e0.mod.kin.keeps fun b o z => (e0.bs b o z).1
  have noLim := e0.mod.nolimit.keeps fun b o z => (e0.bs b o z).1
  have kinds : ∀ y ∈ ps.zip us, (defScope st).names.lookup y.1 = some .local ∨ ((defScope st).names.lookup y.1 = some .cell ∧ ((cellsFrom (s.heap.objs.size + 1) (defScope st).names []).lookup y.1).isSome = true) := by
    rintro ⟨m, v⟩ hy
    cases S.par m (List.of_mem_zip hy).1 with
    | inl q => exact .inl q
    | inr q => exact .inr ⟨q, PySem.W.cellsFrom_some _ _ _ (.inl q)⟩
  refine codeAny_call_function room.depth (inK _ _ lk) rfl S.co S.gen rfl (PySem.W.codeRec_of inK hcd) (hb _ _ _ _ ?_)
  refine wpAny_newFunctionEnv_cells S.kind kinds fun env he s1 y => ?_
  subst he
  refine ⟨noLim.keeps y.toInCall.keep, codeAny_func ?_⟩
  obtain ⟨t, runs, reads⟩ := body p cdv A outer s H vs Q E hot (room.deeper _) want
  have start := inv_startH (CX := CX) (E := E) S pin e0 n r y
  refine wpAny_mono (runs.run [] s1 (L2.start N vs) H _ start reads) (fun fl s' hs => ?_) fun _ _ z => z
  match fl, hs with
  | .ret u, ⟨v, σ', H', J, rv, q⟩ => exact ⟨v, H', J.os, J.bare, J.base, J.hok, rv, q⟩
  | .next, ⟨σ', H', J, q⟩ => exact ⟨.non, H', J.os, J.bare, J.base, J.hok, rfl, q⟩
  | .brk, ⟨_, _, _, q⟩ => exact q.elim
  | .cont, ⟨_, _, _, q⟩ => exact q.elim
section
variable {X : Cx} {CX : CXT} {k : Nat} {f : Addr} {fd : FuncData} {ps : List Str} {sp : Addr × Obj → Sp} {E : L2.St → XK} {x : Str} {q pos : Pos} {e : Expr} {es : List Expr} {t : TA}
/-- the call of such a def, p pinned -/
theorem pe_callE {p : Addr × Obj} (F : FnE X.prog X.w X.K X.mg X.base CX k f fd ps sp) (room : RoomH k X.A) (hot : Hot1 X.A p) (inX : p ∈ X.pn) (hg : Gl X x) (hm : X.mg x = some (.ref f)) (hk : PySem.W.keepIn X.K (.ref f) = true) (hb : Binds X.K fd ps []) (hx : ∀ σ, PassesAt CX X σ (E σ))
    (ha : PA X (e :: es) t) (hdb : (x == ("__debug__" : Str)) = false := by decide) (he : starEach (e :: es) X.env = (false, eval e X.env) :: starEach es X.env := by rfl) (hpl : (backTo pos (starEach es X.env)).any (·.1) = false := by rfl) :
    PE X (.Call (.Name x q) (e :: es) [] pos) (tCallS (sp p) E t) := by
  refine ⟨fun pins s σ H Q I want => ?_⟩
  refine wpAny_Call_Name_kw (ld_glob I hg hm ?_ hdb)
  refine PySem.W.callWith_K (h₀ := X.base) I.ok.mod.kin hk (thn (ha.run pos pins s σ H _ I want) fun us s1 ⟨vs, H1, I1, r, want1⟩ => ⟨I1.kIn, ?_⟩) he hpl
  have n : us.length = ps.length := by
    rw [← r.length]
    exact F.size _ _ _ _ _ want1
  have b := hb s1 us I1.kIn (by rw [List.append_nil]; exact n)
  rw [List.append_nil] at b
  have P1 := I1.pin p (List.mem_append_left _ inX)
  have pin : PinOk X.stack H1 s1 p := by
    refine ⟨P1.1, P1.2.1, fun hm => ?_, P1.2.2.2.2⟩
    cases List.mem_cons.mp (I1.stkSub p.1 hm) with
    | inl z => exact P1.2.2.1 z
    | inr z => exact P1.2.2.2.1 z
  refine wpAny_call (codeAny_mono (F.go p X.A X.stack s1 H1 us vs Q (E σ) room hot pin I1.env0 b r want1) fun r s' out => ?_)
  match r, out with
  | .error e, out => exact hx σ pins H1 s1 e s' I1 out
  | .ok (.ret u), out => exact I1.after out
  | .ok .next, out => exact out.elim
  | .ok .brk, out => exact out.elim
  | .ok .cont, out => exact out.elim
end
/-- C(e, ..) with an own __init__, the context of what is made None -/
theorem pmkN {X : Cx} {CX : CXT} {x : Str} {C fI : Addr} {k : Nat} {fd : FuncData} {ps : List Str} {sp : Sp} {e : Expr} {es : List Expr} {ta : TA} {p pos : Pos} (T : OexC X.K C) (hi : PySem.W.findIn X.K (.ref C) "__init__" = some (some (.ref fI))) (ti : PySem.W.typeIn X.K (.ref fI) = some (.type "function"))
    (Fi : FnOk X.prog X.w X.K X.mg X.base CX k fI fd ps sp) (room : Room (k + 1) X.A) (hb : Binds X.K fd ps []) (hx : Passes CX X (fun _ _ _ => False)) (hg : Gl X x) (hm : X.mg x = some (.ref C)) (ha : PA X (e :: es) ta)
    (hdb : (x == ("__debug__" : Str)) = false := by decide) (he : starEach (e :: es) X.env = (false, eval e X.env) :: starEach es X.env := by rfl) (hpl : (backTo pos (starEach es X.env)).any (·.1) = false := by rfl) :
    L2N.PMk X (.Call (.Name x p) (e :: es) [] pos) (tMkO C sp [] ta) := by
  intro pins s σ H Q I want
  obtain ⟨nm, ql, N, bs, bm, sn, sub, ab, col, dd, k0, k1, k2, k3, k5, atC, chain⟩ := T.cls
  refine wpAny_Call_Name_kw (ld_glob I hg hm ?_ hdb)
  refine PySem.W.callWith_K (h₀ := X.base) I.ok.mod.kin T.kC (thn (ha.run pos pins s σ H _ I want) fun us s1 got => ?_) he hpl
  obtain ⟨vs, H1, I1, r1, few, q1⟩ := got
  refine ⟨I1.kIn, ?_⟩
  obtain ⟨hp, g, dr, tk, os⟩ := s1
  have up : hp.objs.size ≤ hp.objs.size + 1 := Nat.le_add_right _ _
  have want1 := q1 (hp.objs.size + 1) (I1.hok.fresh up)
  rw [List.append_nil] at want1
  obtain ⟨hp', eh⟩ : ∃ z, z = (hp.push (PySem.W.kdv_tup us)).push (PySem.HandSPX.excO C hp.objs.size) := ⟨_, rfl⟩
  have keep : ∀ b o, hp.get? b = some o → hp'.get? b = some o := by
    intro b o z
    rw [eh]
    exact (Heap.get?_push_of_some _ (Heap.get?_push_of_some _ z))
  have there : hp'.get? (hp.objs.size + 1) = some (PySem.HandSPX.excO C hp.objs.size) := by
    rw [eh]
    heap_get
  have I2 : Inv X pins σ (L2.upd H1 (hp.objs.size + 1) (exo (hp.objs.size + 1) C none)) ⟨hp', g, dr, tk, os⟩ := I1.laid (t' := tk) keep up (exo_ok there)
  have r2 : Vals (V.ref (hp.objs.size + 1) :: vs) (Value.ref (hp.objs.size + 1) :: us) := .cons rfl r1
  have n : (Value.ref (hp.objs.size + 1) :: us).length = ps.length := by
    rw [← r2.length]
    exact Fi.len _ _ _ _ want1
  have b := hb ⟨hp', g, dr, tk, os⟩ (Value.ref (hp.objs.size + 1) :: us) I2.kIn (by rw [List.append_nil]; exact n)
  rw [List.append_nil] at b
  have short : us.length ≤ sizeLine := by
    rw [← r1.length, sizeLine_eq]
    omega
  refine wpAny_call (PySem.HandSPX.call_own F.excBase_ValueError (fun Y => PySem.HandSPX.refsVE_contains Y bm chain) (I1.kIn _ _ atC) (PySem.W.looks_findIn I1.kIn hi) (fun self => PySem.W.bind_fn I1.kIn self ti) short ?_)
  rw [List.nil_append, ← eh]
  refine codeAny_mono (Fi.run _ X.stack _ _ ⟨Value.ref (hp.objs.size + 1) :: us, []⟩ _ _ _ (fun _ _ _ => False) (room.make C us []) (I2.env0.make C us []) b r2 want1) fun r s' out => ?_
  match r, out with
  | .error er, out => exact hx pins σ _ _ er s' I2 out
  | .ok (.ret u), out =>
    obtain ⟨v, H2, os2, bare2, un2, hok2, rv, ev, d, fs, ea, ed, hd1, q2⟩ := out
    subst ev
    obtain ⟨h2, g2, d2, t2, os'⟩ := s'
    refine ⟨rv, ?_⟩
    obtain ⟨t0, G, J, kG, ge, hoe, na⟩ := mk_end0 (d2 := d2) (t2 := t2) I1 up keep un2 hok2 os2 bare2 ea ed hd1
    exact ⟨_, _, _, ⟨G, g2, d2, t2, os'⟩, _, .ref C, some d, rfl, J, kG, ge, hoe, ⟨rfl, rfl, fun vs z => by cases z; rfl⟩, rfl, rfl, na, rfl, bare2, raises_own T.exC T.tyC, q2⟩
  | .ok .next, out => exact out.elim
  | .ok .brk, out => exact out.elim
  | .ok .cont, out => exact out.elim
end HotExc
/-! d.get(k), d a dict of the module that stands as it was written -/
namespace HotExc
open PySem PySem.Spec PyProof.Rows L2
/-- what such a dict says of a key -/
def Says (K : PySem.W.Frag) (a : Addr) (z : Str) (v : V) : Prop := ∃ r, PySem.W.nsIn K a z = some r ∧ ((∃ u, r = some u ∧ RelV v u) ∨ (r = none ∧ v = .non))
def Writ (K : PySem.W.Frag) (w : World) (a : Addr) : Prop := ∃ es n, K.lookup a = some ⟨.type "dict", none, .dict es n, #[]⟩ ∧ PySem.W.KeysLit w.params es.toList ∧ (a == sysModules) = false
def tKGet (K : PySem.W.Frag) (w : World) (td ty : TE) : TE := fun σ H Q => td σ H fun x H1 => ∃ a, x = .ref a ∧ Writ K w a ∧ ty σ H1 fun y H2 => ∃ z, y = .str z ∧ ∃ v, Says K a z v ∧ Q v H2
section
variable {X : Cx} {o e : Expr} {apos cpos : Pos} {td ty : TE}
theorem pe_kget (ho : PE X o td) (he : PE X e ty) (m : M1 X o "get" apos e cpos) : PE X (.Call (.Attribute o "get" apos) [e] [] cpos) (tKGet X.K X.w td ty) := by
  refine ⟨fun pins s σ H Q I want => ?_⟩
  refine wpAny_Call_method m.base m.few m.line PySem.F.plainAttrs_dict PySem.F.slot_dict_get PySem.F.type_dict_get (thn (ho.run pins s σ H _ I want) fun u s1 got => ?_)
  obtain ⟨x, H1, I1, rx, a, rfl, ⟨es, n, at_, keys, low⟩, q1⟩ := got
  obtain rfl : u = Value.ref a := rx
  have is1 := PySem.W.mapOf_K (prog := X.prog) (w := X.w) I1.kIn at_ keys
  refine ⟨is1.typeIs, fun b eb => ?_, ?_⟩
  · cases eb
    exact ⟨_, I1.kIn _ _ at_, rfl⟩
  rw [m.trees]
  refine Calls.callWith_builtin rfl (Calls.evalArgs_plain (Calls.spliced_cons (thn (he.run pins s1 σ H1 _ I1 q1) fun iv s2 got => Calls.spliced_nil ?_)))
  obtain ⟨y, H2, I2, ry, z, rfl, v, ⟨r, er, hv⟩, q2⟩ := got
  obtain ⟨t, rfl⟩ := (show ∃ t, iv = Value.str z t from ry)
  have is2 := PySem.W.mapOf_K (prog := X.prog) (w := X.w) I2.kIn at_ keys
  have ef : findBy Value.isStrOf es z = r := PySem.W.find_K at_ er
  refine call_meetsIn PySem.F.slot_dict_get is2.typeIs PySem.F.entry_dict_get (PySem.F.args_dict_get_2 _ _) (meets_dict_get (strKind X.prog X.w) a (strKind_is X.prog X.w z t) low) ⟨_, is2, ⟨v, H2, I2.tok _, ?_, q2⟩⟩
  show RelV v ((findBy Value.isStrOf es z).getD .none)
  rw [ef]
  rcases hv with ⟨u, rfl, ru⟩ | ⟨rfl, rfl⟩
  · exact ru
  · rfl
end
end HotExc
/-! f(e, .., k = v, ..) in a try's body: what may come out depends on the slots -/
namespace HotExc
open PySem PySem.Spec PyProof.Rows L2
def tCallKS (sp : Sp) (gV : List V → List V → List V) (E : L2.St → XK) (t tk : TA) : TE := fun σ H Q => t σ H fun vs H1 => tk σ H1 fun zs H2 => sp (gV vs zs) H2 Q (E σ)
theorem pe_callKS {X : Cx} {CX : CXT} {k : Nat} {f : Addr} {fd : FuncData} {ps ks : List Str} {sp : Sp} {E : L2.St → XK} {x : Str} {p pos : Pos} {e : Expr} {es : List Expr} {kws : List Keyword} {t tk : TA} {g : List Value → List Value → List Value} {gV : List V → List V → List V}
    (F : FnOk X.prog X.w X.K X.mg X.base CX k f fd ps sp) (room : Room k X.A) (hg : Gl X x) (hm : X.mg x = some (.ref f)) (hk : PySem.W.keepIn X.K (.ref f) = true) (hb : KBinds X.K fd ps ks g gV) (hx : ∀ σ, PassesAt CX X σ (E σ))
    (ha : PA X (e :: es) t) (hkw : PK X kws tk) (hall : (backToKw pos (keywordEach kws X.env)).all (·.1.isSome) = true := by rfl) (hks : (backToKw pos (keywordEach kws X.env)).filterMap (·.1) = ks := by rfl)
    (hdb : (x == ("__debug__" : Str)) = false := by decide) (he : starEach (e :: es) X.env = (false, eval e X.env) :: starEach es X.env := by rfl)
    (hpl : ((backTo pos (starEach (e :: es) X.env)).any (·.1) || (backToKw pos (keywordEach kws X.env)).any (·.1.isNone)) = false := by rfl) : PE X (.Call (.Name x p) (e :: es) kws pos) (tCallKS sp gV E t tk) := by
  refine ⟨fun pins s σ H Q I want => ?_⟩
  refine wpAny_Call_Name_kw (ld_glob I hg hm ?_ hdb)
  refine PySem.W.callWith_KW (h₀ := X.base) I.ok.mod.kin hk hall (thn (ha.run pos pins s σ H _ I want) fun us s1 got => ?_) hpl he
  obtain ⟨vs, H1, I1, r1, want1⟩ := got
  refine thn (hkw.run pos pins s1 σ H1 _ I1 want1) fun ws s2 got => ?_
  obtain ⟨zs, H2, I2, rz, want2⟩ := got
  refine ⟨I2.kIn, ?_⟩
  rw [hks]
  have r2 := hb.rel r1 rz
  have n : (g us ws).length = ps.length := by
    rw [← r2.length]
    exact F.len _ _ _ _ want2
  refine wpAny_call (codeAny_mono (F.run X.A X.stack s2 H2 ⟨us, ks.zip ws⟩ (g us ws) (gV vs zs) Q (E σ) room I2.env0 (hb.to s2 us ws I2.kIn n) r2 want2) fun r s' out => ?_)
  match r, out with
  | .error e, out => exact hx σ pins H2 s2 e s' I2 out
  | .ok (.ret u), out => exact I2.after out
  | .ok .next, out => exact out.elim
  | .ok .brk, out => exact out.elim
  | .ok .cont, out => exact out.elim
end HotExc
namespace K01
open PySem PySem.Spec PyProof.Rows L2
/-! ### lists, copied and turned -/
def rListOf (K : PySem.W.Frag) (xs : List V) (H : Hp) (Q : VK) : Prop := ∃ p, xs = [V.ref p] ∧ ∃ ys, (SqL K H p ys ∨ SqT K H p ys) ∧ ∀ l, H l = none → Q (.ref l) (L2.upd H l (.lst ys))
theorem call_listK {X : Cx} {K : PySem.W.Frag} (h : X.K = K := by rfl) : CallR X (.type "list") (rListOf K) := callR_mono (h ▸ call_list_of) fun _ _ _ ⟨p, e, ys, h1, q⟩ => ⟨p, ys, e, h1, q⟩
theorem pe_revLK {X : Cx} {K : PySem.W.Frag} {e : Expr} {te : TE} {k : Nat} {p1 p2 p3 pos : Pos} (he : PE X e te) (h : X.K = K := by rfl) : PE X (.Subscript e (.Slice none none (some (.UnaryOp .USub (.Constant (.int 1) k p1) p2)) p3) pos) (tRevL K te) := h ▸ pe_revL he
theorem cut_to {xs : List V} {i : Nat} (h : i ≤ xs.length) : cutV xs none (some (i : Int)) = xs.take i := by
  unfold cutV
  rw [HT.sIx_none, HT.sIx_nat, List.drop_zero, Nat.sub_zero, Nat.min_eq_left h]
theorem cut_from {xs : List V} {i : Nat} (h : i ≤ xs.length) : cutV xs (some (i : Int)) none = xs.drop i := by
  unfold cutV
  rw [HT.sIx_none, HT.sIx_nat, Nat.min_eq_left h]
  exact List.take_of_length_le (by rw [List.length_drop]; omega)
theorem perm_pick {xs : List V} {i : Nat} {v : V} (h : xs[i]? = some v) : (v :: (xs.take i ++ xs.drop (i + 1))).Perm xs := by
  have hi := lt_of_get h
  have e : xs = xs.take i ++ v :: xs.drop (i + 1) := by
    have e2 := (List.getElem?_eq_some_iff.mp h).2
    rw [← e2, ← List.drop_eq_getElem_cons hi, List.take_append_drop]
  conv => rhs; rw [e]
  exact (List.perm_middle).symm
end K01
/-! own words for the draws, dicts, comprehensions with a test, exceptions -/
namespace HotExc
open PySem PySem.Spec PyProof.Rows L2 L2H
theorem pe_imp {X : Cx} {e : Expr} {t t' : TE} (h : PE X e t) (k : ∀ σ H Q, t' σ H Q → t σ H Q) : PE X e t' := ⟨fun pins s σ H Q I q => h.run pins s σ H Q I (k _ _ _ q)⟩
theorem ps_imp {X : Cx} {e : Stmt} {t t' : TS} (h : PS X e t) (k : ∀ D σ H, t' D σ H → t D σ H) : PS X e t' := ⟨fun pins s σ H D I q => h.run pins s σ H D I (k _ _ _ q)⟩
theorem takesN0 {X : Cx} : L2N.Takes X (fun _ _ _ _ => False) := fun _ _ x => by
  obtain ⟨_, _, _, _, _, _, _, _, _, _, _, _, _, _, _, _, w⟩ := x
  exact w.elim
/-- a call of a def that may raise, where it does not -/
theorem passS0 {X : Cx} : ∀ σ, PassesAt (L2N.CX X.prog X.w) X σ (WE (fun _ _ _ _ => False) σ) := fun σ => L2N.passAt takesN0 σ
def tCallSD (sp : Sp) (dvs : List V) (E : L2.St → XK) (t : TA) : TE := fun σ H Q => t σ H fun vs H1 => sp (vs ++ dvs) H1 Q (E σ)
theorem pe_callSD {X : Cx} {CX : CXT} {k : Nat} {f : Addr} {fd : FuncData} {ps : List Str} {sp : Sp} {dvs : List V} {ds : List Value} {E : L2.St → XK} {x : Str} {p pos : Pos} {e : Expr} {es : List Expr} {t : TA}
    (F : FnOk X.prog X.w X.K X.mg X.base CX k f fd ps sp) (hr : Room k X.A) (hg : Gl X x) (hm : X.mg x = some (.ref f)) (hk : PySem.W.keepIn X.K (.ref f) = true) (hb : Binds X.K fd ps ds) (hd : Vals dvs ds) (hx : ∀ σ, PassesAt CX X σ (E σ))
    (ha : PA X (e :: es) t) (hdb : (x == ("__debug__" : Str)) = false := by decide) (he : starEach (e :: es) X.env = (false, eval e X.env) :: starEach es X.env := by rfl) (hpl : (backTo pos (starEach es X.env)).any (·.1) = false := by rfl) :
    PE X (.Call (.Name x p) (e :: es) [] pos) (tCallSD sp dvs E t) := by
  refine ⟨fun pins s σ H Q I h => ?_⟩
  refine wpAny_Call_Name_kw (ld_glob I hg hm ?_ hdb)
  refine PySem.W.callWith_K (h₀ := X.base) I.ok.mod.kin hk (thn (ha.run pos pins s σ H _ I h) fun us s1 got => ?_) he hpl
  obtain ⟨vs, H1, I1, r, q⟩ := got
  refine ⟨I1.kIn, ?_⟩
  have r2 : Vals (vs ++ dvs) (us ++ ds) := r.append hd
  have hl : (us ++ ds).length = ps.length := by rw [← r2.length]; exact F.len _ _ _ _ q
  refine wpAny_call (codeAny_mono (F.run X.A X.stack s1 H1 ⟨us, []⟩ (us ++ ds) (vs ++ dvs) Q (E σ) hr I1.env0 (hb s1 us I1.kIn hl) r2 q) fun r s' hq => ?_)
  match r, hq with
  | .error e, hq => exact hx σ pins H1 s1 e s' I1 hq
  | .ok (.ret u), hq => exact I1.after hq
  | .ok .next, hq => exact hq.elim
  | .ok .brk, hq => exact hq.elim
  | .ok .cont, hq => exact hq.elim
/-! dicts with text keys that stand in H -/
def tG (td ty : TE) : TE := fun σ H Q => td σ H fun x H1 => ty σ H1 fun y H2 => ∃ a, x = .ref a ∧ ∃ z, y = .str z ∧ ∃ kvs, H2 a = some (.dK kvs) ∧ ∃ v, valV kvs (Sum.inr z) = some v ∧ Q v H2
def tG2 (td ty tx : TE) : TE := fun σ H Q => td σ H fun x H1 => ∃ a, x = .ref a ∧ ∃ kvs, H1 a = some (.dK kvs) ∧ ty σ H1 fun y H2 => tx σ H2 fun u H3 => ∃ z, y = .str z ∧ H3 a = some (.dK kvs) ∧ Q ((valV kvs (Sum.inr z)).getD u) H3
def sP (td ty tv : TE) : TS := fun D σ H => tv σ H fun v H1 => td σ H1 fun x H2 => ty σ H2 fun y H3 => ∃ a, x = .ref a ∧ ∃ z, y = .str z ∧ ∃ kvs, H3 a = some (.dK kvs) ∧ kvs.length < sizeLine ∧ D.nx σ (L2.upd H3 a (.dK (putK kvs (Sum.inr z) v)))
section
variable {X : Cx} {o i e f value : Expr} {pos pos' apos cpos : Pos} {td ty tx tv : TE}
theorem pe_gS (hu : X.A.units + 1 < cLine) (ho : PE X o td) (hi : PE X i ty) (hs : NoSl i) : PE X (.Subscript o i pos) (tG td ty) := by
  refine ⟨fun pins s σ H Q I h => ?_⟩
  refine subD_of PySem.F.slot_dict_getitem.lookup hs (thn (ho.run pins s σ H _ I h) fun u s1 ⟨x, H1, I1, rx, q1⟩ => thn (hi.run pins s1 σ H1 _ I1 q1) fun iv s2 ⟨y, H2, I2, ry, a, ex, z, ez, kvs, hk, v, hv, q2⟩ => ?_)
  subst ex
  obtain rfl : u = Value.ref a := rx
  have g : DGet H2 a y (some v) := by
    subst ez
    rw [← hv]
    exact DGet.k (k := Sum.inr z) hk
  exact ⟨dict_typeIs I2 g, d_getItem hu I2 g ry fun w' s3 I3 rw' => ⟨v, H2, I3, rw', q2⟩⟩
theorem ps_pS (hu : X.A.units + 1 < cLine) (ho : PE X o td) (hi : PE X i ty) (hv : PE X value tv) (hs : swapsWith value (some (.Subscript o i pos')) pos.line X.env = pure false) :
    PS X (.Assign [.Subscript o i pos'] value pos) (sP td ty tv) := by
  refine ⟨fun pins s σ H D I h => ?_⟩
  refine wpAny_Assign_Subscript (thn (hv.run pins s σ H _ I h) fun r s1 ⟨v, H1, I1, rv, q1⟩ => thn (ho.run pins s1 σ H1 _ I1 q1) fun u s2 ⟨x, H2, I2, rx, q2⟩ => thn (hi.run pins s2 σ H2 _ I2 q2) fun iv s3 ⟨y, H3, I3, ry, a, ex, z, ez, kvs, hk, hl, q3⟩ => ?_) hs
  subst ex
  obtain rfl : u = Value.ref a := rx
  have g : DPut H3 a y v (L2.upd H3 a (.dK (putK kvs (Sum.inr z) v))) := by
    subst ez
    exact DPut.k (k := Sum.inr z) hk hl
  exact d_setItem hu I3 g ry rv fun s4 I4 => ⟨σ, _, I4, q3⟩
theorem pe_gS2 (hu : X.A.units + 1 < cLine) (ho : PE X o td) (he : PE X e ty) (hf : PE X f tx) (m : M2 X o "get" apos e f cpos) : PE X (.Call (.Attribute o "get" apos) [e, f] [] cpos) (tG2 td ty tx) := by
  refine ⟨fun pins s σ H Q I h => ?_⟩
  refine wpAny_Call_method m.base m.few m.line PySem.F.plainAttrs_dict PySem.F.slot_dict_get PySem.F.type_dict_get (thn (ho.run pins s σ H _ I h) fun u s1 ⟨x, H1, I1, rx, a, ex, kvs, hk, q1⟩ => ?_)
  subst ex
  obtain rfl : u = Value.ref a := rx
  obtain ⟨d1, d2, _⟩ := isD_at I1 (.inl ⟨kvs, .inl hk⟩)
  refine ⟨d1, d2, ?_⟩
  rw [m.trees]
  refine Calls.callWith_builtin rfl (Calls.evalArgs_plain (Calls.spliced_cons (thn (he.run pins s1 σ H1 _ I1 q1) fun iv s2 ⟨y, H2, I2, ry, q2⟩ => Calls.spliced_cons (thn (hf.run pins s2 σ H2 _ I2 q2) fun dv s3 ⟨z, H3, I3, rz, zz, ez, hk3, q3⟩ => Calls.spliced_nil ?_))))
  have g : DGet H3 a y (valV kvs (Sum.inr zz)) := by
    subst ez
    exact DGet.k (k := Sum.inr zz) hk3
  exact d_get2 hu I3 g ry rz fun w' s4 I4 rw' => ⟨_, H3, I4, rw', q3⟩
end
def rTupOf (K : PySem.W.Frag) (xs : List V) (H : Hp) (Q : VK) : Prop := ∃ p, xs = [V.ref p] ∧ ∃ ys, SqL K H p ys ∧ ∀ l, H l = none → Q (.ref l) (L2.upd H l (.tup ys))
theorem call_tupK {X : Cx} {K : PySem.W.Frag} (h : X.K = K := by rfl) : CallR X (.type "tuple") (rTupOf K) := h ▸ fun pins s σ H xs us Q I r q => call_tuple_of pins s σ H xs us Q I r (by
  obtain ⟨p, e, ys, hs, q⟩ := q
  exact ⟨p, ys, e, .inl ⟨hs, q⟩⟩)
/-- isinstance(e, c) of the handled exception, whose class is told by the reading -/
def rIsZ (K : PySem.W.Frag) (cls : Value) (D a : Addr) (d : Option Addr) (xs : List V) (H : Hp) (Q : VK) : Prop := cls = .ref D ∧ rIsP K D a d xs H Q
theorem call_isZ {X : Cx} {K : PySem.W.Frag} {a D : Addr} {oe : Obj} {cls : Value} {d : Option Addr} (C : ExcC K D) (hp : (a, oe) ∈ X.pn) (hz : L2N.Zn cls d oe) (hf : ∃ vs, oe.data = .fields vs) (hk : X.K = K := by rfl) : CallR X (.builtin "isinstance") (rIsZ K cls D a d) := by
  subst hk
  intro pins s σ H xs us Q I r want
  obtain ⟨e, want⟩ := want
  exact call_isP C hp (by rw [← e]; exact hz.zc) hf pins s σ H xs us Q I r want
theorem r_isZ {K : PySem.W.Frag} {D a c : Addr} {d : Option Addr} {b : Bool} {H : Hp} {Q : VK} (hk : PySem.W.kitOne K (.ref D) (.ref c) = some b) (hd : ∀ dx, d = some dx → ∃ fs, H dx = some (.xd fs)) (q : Q (.bl b) H) : rIsZ K (.ref D) D a d [.ref a, .ref c] H Q :=
  ⟨rfl, _, rfl, .ref c, fun u r => r, b, hk, hd, q⟩
theorem r_isZV {K : PySem.W.Frag} {D a : Addr} {d : Option Addr} {b : Bool} {H : Hp} {Q : VK} (hk : PySem.W.kitOne K (.ref D) (.type "ValueError") = some b) (hd : ∀ dx, d = some dx → ∃ fs, H dx = some (.xd fs)) (q : Q (.bl b) H) : rIsZ K (.ref D) D a d [.ref a, .ty "ValueError"] H Q :=
  ⟨rfl, _, rfl, .type "ValueError", fun u r => r, b, hk, hd, q⟩
end HotExc
namespace K01
open PySem PySem.Spec PyProof.Rows L2 TL HotExc
theorem StoreAt.put {H : Hp} {a c p : Addr} {o : HO} (S : StoreAt H a c) (n1 : p ≠ a) (n2 : p ≠ c) : StoreAt (L2.upd H p o) a c := by
  obtain ⟨⟨cells, pos, val, turn, seed, h1, h2, h3, h4⟩, n⟩ := S
  exact ⟨⟨cells, pos, val, turn, seed, by rw [upd_ne n1.symm]; exact h1, by rw [upd_ne n2.symm]; exact h2, h3, h4⟩, n⟩
theorem StoreAt.new {H : Hp} {a c p : Addr} {o : HO} (S : StoreAt H a c) (n : H p = none) : StoreAt (L2.upd H p o) a c := by
  obtain ⟨cells, pos, val, turn, seed, h1, h2, _⟩ := S.ex
  exact S.put (ne_of_none h1 n).symm (ne_of_none h2 n).symm
theorem StoreAt.ne1 {H : Hp} {a c p : Addr} (S : StoreAt H a c) (n : H p = none) : p ≠ a := by
  obtain ⟨cells, pos, val, turn, seed, h1, h2, _⟩ := S.ex
  exact (ne_of_none h1 n).symm
theorem StoreAt.ne2 {H : Hp} {a c p : Addr} (S : StoreAt H a c) (n : H p = none) : p ≠ c := by
  obtain ⟨cells, pos, val, turn, seed, h1, h2, _⟩ := S.ex
  exact (ne_of_none h2 n).symm
theorem But.putNew {a p : Addr} {H1 H4 : Hp} {o : HO} (h : But a H1 H4) (np : H1 p = none) : But a H1 (L2.upd H4 p o) := fun b x hb e => by
  rw [upd_ne (ne_of_none e np)]
  exact h b x hb e
theorem But.pushNew {a p : Addr} {H1 H2 : Hp} {o : HO} (np : H1 p = none) (h : But a (L2.upd H1 p o) H2) : But a H1 H2 := fun b x hb e => h b x hb (by rw [upd_ne (ne_of_none e np)]; exact e)
theorem But.free {a c q : Addr} {H H' : Hp} (h : But a H H') (S : StoreAt H' a c) (n : H' q = none) : H q = none := by
  cases e : H q with
  | none => rfl
  | some o =>
    have := h q o (S.ne1 n) e
    rw [n] at this
    cases this
theorem size_ok {n : Nat} (h : n ≤ 1000000) : n < sizeLine := Nat.lt_of_le_of_lt h (by rw [PySem.sizeLine_eq]; decide)
/-! comprehensions with a test, folded -/
def LcT (J : It) (g : TG) (tt : TT) (te : TE) (vs : List Nat) (σ : L2.St) (H1 : Hp) (D : Addr) (Q : Hp → Prop) : Prop := ∃ W : Nat → Nat → Hp → Prop, (∃ m, W 0 m (L2.upd H1 D (.lst []))) ∧ ∀ i m G, W i m G →
  (J.stop i G ∧ Q G) ∨ (J.go i G ∧ ∃ Nx : Hp → Prop, (∀ G', Nx G' → ∃ m', m' < m ∧ W (i + 1) m' G') ∧ ∀ x G', J.yld i G x G' → g x (wipe σ vs) G' fun ω G2 => wipe ω vs = wipe σ vs ∧ tt ω G2 fun b G3 =>
    if b = true then te ω G3 fun y G4 => ∃ got, G4 D = some (.lst got) ∧ got.length < sizeLine ∧ Nx (L2.upd G4 D (.lst (got ++ [y]))) else Nx G3)
theorem lcT_eq {K : PySem.W.Frag} {tl te : TE} {g : TG} {tt : TT} {vs : List Nat} {σ : L2.St} {H : Hp} {Q : VK} : tLc (iList K tl) g tt te vs σ H Q = tl σ H (fun v H1 => ∃ a, v = V.ref a ∧ ∃ xs, SqL K H1 a xs ∧ ∀ D, H1 D = none → LcT (Itl K a) g tt te vs σ H1 D (Q (.ref D))) := by
  show tl σ H _ = tl σ H _
  congr 1
  funext v H1
  exact propext ⟨fun ⟨a, e, ⟨xs, h⟩, q⟩ => ⟨a, e, xs, h, q⟩, fun ⟨a, e, xs, h, q⟩ => ⟨a, e, ⟨xs, h⟩, q⟩⟩
theorem lcRT_eq {ta : TA} {te : TE} {g : TG} {tt : TT} {vs : List Nat} {σ : L2.St} {H : Hp} {Q : VK} : tLc (iRng1 ta) g tt te vs σ H Q = ta σ H (fun vs' H1 => ∃ j : Int, vs' = [V.int j] ∧ -(2 ^ 62) ≤ j ∧ j < 2 ^ 62 ∧ ∀ D, H1 D = none → LcT (Itr 0 j.toNat) g tt te vs σ H1 D (Q (.ref D))) := rfl
section
variable {j : Nat} {tt : TT} {te : TE} {vs : List Nat} {σ : L2.St} {H1 : Hp} {D : Addr} {Qd : Hp → Prop}
theorem r_lcT {K : PySem.W.Frag} {a : Addr} (xs : List V) (Pv : Nat → Hp → Prop) (hw : ∀ x, wipe ((wipe σ vs).set j (some x)) vs = wipe σ vs) (h0 : Pv 0 (L2.upd H1 D (.lst []))) (hl : ∀ i H, i ≤ xs.length → Pv i H → SqL K H a xs)
    (hs : ∀ i x H, xs[i]? = some x → Pv i H → ∀ (N : VK) (M : Hp → Prop), (∀ y H4 got, H4 D = some (.lst got) → got.length < sizeLine → Pv (i + 1) (L2.upd H4 D (.lst (got ++ [y]))) → N y H4) → (∀ H3, Pv (i + 1) H3 → M H3) →
      tt ((wipe σ vs).set j (some x)) H fun b H3 => if b = true then te ((wipe σ vs).set j (some x)) H3 N else M H3) (hd : ∀ H, Pv xs.length H → Qd H) : LcT (Itl K a) (gName j) tt te vs σ H1 D Qd :=
  lc_list (g := gName j) Pv h0 hl (fun i x H hx hp => ⟨hw x, hs i x H hx hp _ _ (fun y H4 got h1 h2 h3 => ⟨got, h1, h2, h3⟩) fun _ h => h⟩) hd
theorem r_lcTL {K : PySem.W.Frag} {a : Addr} (xs : List V) (Pv : Nat → Hp → Prop) (hw : ∀ x, wipe ((wipe σ vs).set j (some x)) vs = wipe σ vs) (h0 : Pv 0 (L2.upd H1 D (.lst []))) (hl : ∀ i H, i ≤ xs.length → Pv i H → SqL K H a xs)
    (hs : ∀ i x H, xs[i]? = some x → Pv i H → ∀ N : VK, (∀ y H4 got, H4 D = some (.lst got) → got.length < sizeLine → Pv (i + 1) (L2.upd H4 D (.lst (got ++ [y]))) → N y H4) → te ((wipe σ vs).set j (some x)) H N) (hd : ∀ H, Pv xs.length H → Qd H) : LcT (Itl K a) (gName j) tYes te vs σ H1 D Qd :=
  r_lcT xs Pv hw h0 hl (fun i x H hx hp N M kN _ => by
    simp only [tYes, if_pos]
    exact hs i x H hx hp N kN) hd
theorem r_lcRT {n : Nat} (Pv : Nat → Hp → Prop) (hw : ∀ x, wipe ((wipe σ vs).set j (some x)) vs = wipe σ vs) (h0 : Pv 0 (L2.upd H1 D (.lst [])))
    (hs : ∀ i H, i < n → Pv i H → ∀ (N : VK) (M : Hp → Prop), (∀ y H4 got, H4 D = some (.lst got) → got.length < sizeLine → Pv (i + 1) (L2.upd H4 D (.lst (got ++ [y]))) → N y H4) → (∀ H3, Pv (i + 1) H3 → M H3) →
      tt ((wipe σ vs).set j (some (.int (0 + i)))) H fun b H3 => if b = true then te ((wipe σ vs).set j (some (.int (0 + i)))) H3 N else M H3) (hd : ∀ H, Pv n H → Qd H) : LcT (Itr 0 n) (gName j) tt te vs σ H1 D Qd :=
  lc_range (g := gName j) Pv h0 (fun i H hi hp => ⟨hw _, hs i H hi hp _ _ (fun y H4 got h1 h2 h3 => ⟨got, h1, h2, h3⟩) fun _ h => h⟩) hd
end
theorem But0.new {H : Hp} {D : Addr} {x : HO} (h : H D = none) : ∀ b o, H b = some o → L2.upd H D x b = some o := fun b o e => by
  rw [upd_ne (fun z => by rw [z, h] at e; cases e)]
  exact e
theorem But0.put {H H' : Hp} {D : Addr} {x : HO} (h : H D = none) (k : ∀ b o, H b = some o → H' b = some o) : ∀ b o, H b = some o → L2.upd H' D x b = some o := fun b o e => by
  rw [upd_ne (fun z => by rw [z, h] at e; cases e)]
  exact k b o e
theorem kp_ne {H : Hp} {p D : Addr} {o : HO} (h : H p = some o) (n : H D = none) : p ≠ D := fun z => by
  rw [z, n] at h
  cases h
theorem But0.put' {H : Hp} {p D : Addr} {o x : HO} (h : H p = some o) (n : p ≠ D) : L2.upd H D x p = some o := (upd_ne n).trans h
theorem at_lst {H : Hp} {a : Addr} {xs : List V} {l : List Dat} (h : H a = some (.lst xs)) (hl : xs.length ≤ 1000000) (r : AtL H (fun _ => True) l xs) : At H (fun _ => True) (.lst l) (.ref a) := ⟨a, xs, rfl, trivial, h, hl, r⟩
theorem at_tup {H : Hp} {a : Addr} {xs : List V} {l : List Dat} (h : H a = some (.tup xs)) (hl : xs.length ≤ 1000000) (r : AtL H (fun _ => True) l xs) : At H (fun _ => True) (.tup l) (.ref a) := ⟨a, xs, rfl, trivial, h, hl, r⟩
theorem atl_cons {H : Hp} {A : Addr → Prop} {d : Dat} {l : List Dat} {v : V} {r : List V} (h : At H A d v) (h2 : AtL H A l r) : AtL H A (d :: l) (v :: r) := ⟨v, r, rfl, h, h2⟩
def Keeps (H H' : Hp) : Prop := ∀ b o, H b = some o → H' b = some o
theorem Keeps.refl (H : Hp) : Keeps H H := fun _ _ h => h
theorem Keeps.trans {H H1 H2 : Hp} (h : Keeps H H1) (k : Keeps H1 H2) : Keeps H H2 := fun b o e => k b o (h b o e)
theorem Keeps.new {H : Hp} {p : Addr} {x : HO} (n : H p = none) : Keeps H (L2.upd H p x) := But0.new n
theorem Keeps.put {H H' : Hp} {p : Addr} {x : HO} (k : Keeps H H') (n : H p = none) : Keeps H (L2.upd H' p x) := But0.put n k
theorem Keeps.free {H H' : Hp} {p : Addr} (k : Keeps H H') (n : H' p = none) : H p = none := by
  cases e : H p with
  | none => rfl
  | some o => rw [k p o e] at n; cases n
theorem Keeps.store {H H' : Hp} {a c : Addr} (S : StoreAt H a c) (k : Keeps H H') : StoreAt H' a c := by
  obtain ⟨⟨cells, pos, val, turn, seed, h1, h2, h3, h4⟩, n⟩ := S
  exact ⟨⟨cells, pos, val, turn, seed, k _ _ h1, k _ _ h2, h3, h4⟩, n⟩
theorem Keeps.but {a : Addr} {H H' : Hp} (k : Keeps H H') : But a H H' := fun b o _ e => k b o e
theorem inV_strs (z : Str) : ∀ ws : List Str, inV (.str z) (ws.map V.str) = decide (z ∈ ws)
  | [] => rfl
  | y :: ws => by
    have ih := inV_strs z ws
    unfold inV at ih ⊢
    rw [List.map_cons, List.any_cons, ih]
    show ((y == z) || decide (z ∈ ws)) = decide (z ∈ y :: ws)
    by_cases h : y = z
    · subst h
      simp
    · have e : (y == z) = false := by simpa using h
      rw [e, Bool.false_or]
      exact decide_eq_decide.mpr ⟨fun m => List.mem_cons_of_mem _ m, fun m => (List.mem_cons.mp m).elim (fun z' => absurd z'.symm h) id⟩
theorem flat_strs : ∀ ws : List Str, (ws.map V.str).all flatV = true
  | [] => rfl
  | _ :: ws => flat_strs ws
/-- a text in a row of texts -/
def rInW (K : PySem.W.Frag) : R2 := fun x y H Q => ∃ z, x = .str z ∧ ∃ p, y = .ref p ∧ ∃ ws : List Str, (SqL K H p (ws.map V.str) ∨ SqT K H p (ws.map V.str)) ∧ Q (.bl (decide (z ∈ ws))) H
def rNinW (K : PySem.W.Frag) : R2 := fun x y H Q => ∃ z, x = .str z ∧ ∃ p, y = .ref p ∧ ∃ ws : List Str, (SqL K H p (ws.map V.str) ∨ SqT K H p (ws.map V.str)) ∧ Q (.bl (!decide (z ∈ ws))) H
theorem op_inW {X : Cx} {K : PySem.W.Frag} (h : X.K = K := by rfl) : OpR X (compareOp .In) (rInW K) := opR_mono (h ▸ op_in_seq) fun _ _ _ _ ⟨z, e, p, e2, ws, hs, q⟩ => ⟨p, _, e2, hs, by rw [e]; rfl, flat_strs ws, by rw [e, inV_strs]; exact q⟩
theorem op_ninW {X : Cx} {K : PySem.W.Frag} (h : X.K = K := by rfl) : OpR X (compareOp .NotIn) (rNinW K) := opR_mono (h ▸ op_notIn_seq) fun _ _ _ _ ⟨z, e, p, e2, ws, hs, q⟩ => ⟨p, _, e2, hs, by rw [e]; rfl, flat_strs ws, by rw [e, inV_strs]; exact q⟩
def spIni1 (C : Addr) (fld : Str) : Sp := fun vs H Q _ => ∃ a y, vs = [.ref a, y] ∧ H a = some (exo a C none) ∧ ∀ dx, H dx = none → dx ≠ a → Q .non (L2.upd (L2.upd H dx (exd dx [(fld, y)])) a (exo a C (some dx)))
def spIni2 (C : Addr) (f1 f2 : Str) : Sp := fun vs H Q _ => ∃ a y z, vs = [.ref a, y, z] ∧ H a = some (exo a C none) ∧ ∀ dx, H dx = none → dx ≠ a → Q .non (L2.upd (L2.upd (L2.upd H dx (exd dx [(f1, y)])) a (exo a C (some dx))) dx (exd dx [(f2, z), (f1, y)]))
section
variable {P : Program} {w : World} {K : PySem.W.Frag} {mg : Str → Option Value} {base : Heap}
/-- a def that may let an exception out, its context None -/
theorem okN {x qual : Str} {st : Stmt} {f : Addr} {fd : FuncData} {N ps : List Str} {k : Nat} {sp : Sp} (F : Fun K x qual st f fd) (S : FnScope N ps (defScope st)) (len : ∀ vs H Q E, sp vs H Q E → vs.length = ps.length)
    (body : ∀ (cdv : Value) (A : Around) (outer : List Env) (s : Shared) (H : Hp) (vs : List V) (Q : VK) (E : XK), Room k (A.deeper (envOfC qual (defScope st) s.heap.objs.size f cdv)) → sp vs H Q E →
      ∃ t, PSs (cxOf (L2N.CX P w) P w K mg base N qual (defScope st) f cdv A outer s H E) (defBody st) t ∧ t { nx := fun _ H' => Q .non H', rt := Q } (L2.start N vs) H) : FnOk P w K mg base (L2N.CX P w) (k + 1) f fd ps sp := by
  obtain ⟨oc, od, kV, doc, pm, an, cdv, ct, osl, rfl, lk, hcd⟩ := F.ex
  refine fn_of lk hcd S len ?_
  intro A outer s H vs Q E hr h
  exact body cdv A outer s H vs Q E hr h
/-- what is known of an own exception class -/
structure Exn (K : PySem.W.Frag) (mg : Str → Option Value) (x : Str) (C fI : Addr) : Prop where
  oex : OexC K C
  g : mg x = some (.ref C)
  ini : PySem.W.findIn K (.ref C) "__init__" = some (some (.ref fI))
  fn : PySem.W.typeIn K (.ref fI) = some (.type "function")
theorem mk_same {H : Hp} {a d : Addr} {u v w x : HO} (na : H a = none) (ne : d ≠ a) : L2.upd (del (L2.upd (L2.upd (L2.upd H a u) d v) a w) a) d x = L2.upd H d x := by
  funext b
  by_cases h1 : b = d
  · rw [h1, upd_same, upd_same]
  · rw [upd_ne h1, upd_ne h1]
    by_cases h2 : b = a
    · rw [h2, del_same, na]
    · rw [del_ne h2, upd_ne h2, upd_ne h1, upd_ne h2]
theorem mk1 {C : Addr} {fld : Str} {y : V} {H : Hp} {Q : XK} (q : ∀ d, H d = none → Q (.ref C) (some d) (L2.upd H d (.xd [(fld, y)]))) : [y].length ≤ 1000 ∧ ∀ a, H a = none → spIni1 C fld (.ref a :: ([y] ++ [])) (L2.upd H a (exo a C none))
    (fun v H2 => v = .non ∧ ∃ (d : Addr) (fs : List (Str × V)), H2 a = some (exo a C (some d)) ∧ H2 d = some (exd d fs) ∧ H d = none ∧ Q (.ref C) (some d) (L2.upd (del H2 a) d (.xd fs))) (fun _ _ _ => False) := by
  refine ⟨by rw [List.length_singleton]; decide, fun a na => ⟨a, y, rfl, upd_same, fun dx n ne => ?_⟩⟩
  have n' : H dx = none := (upd_ne ne).symm.trans n
  refine ⟨rfl, dx, _, upd_same, (upd_ne ne).trans upd_same, n', ?_⟩
  rw [mk_same na ne]
  exact q dx n'
end
theorem mk2 {C : Addr} {f1 f2 : Str} {y z : V} {H : Hp} {Q : XK} (q : ∀ d, H d = none → Q (.ref C) (some d) (L2.upd H d (.xd [(f2, z), (f1, y)]))) : [y, z].length ≤ 1000 ∧ ∀ a, H a = none → spIni2 C f1 f2 (.ref a :: ([y, z] ++ [])) (L2.upd H a (exo a C none))
    (fun v H2 => v = .non ∧ ∃ (d : Addr) (fs : List (Str × V)), H2 a = some (exo a C (some d)) ∧ H2 d = some (exd d fs) ∧ H d = none ∧ Q (.ref C) (some d) (L2.upd (del H2 a) d (.xd fs))) (fun _ _ _ => False) := by
  refine ⟨Nat.le_of_ble_eq_true rfl, fun a na => ⟨a, y, z, rfl, upd_same, fun dx n ne => ?_⟩⟩
  have n' : H dx = none := (upd_ne ne).symm.trans n
  refine ⟨rfl, dx, _, (upd_ne (Ne.symm ne)).trans upd_same, upd_same, n', ?_⟩
  have e : ∀ (u v w v2 x : HO), L2.upd (del (L2.upd (L2.upd (L2.upd (L2.upd H a u) dx v) a w) dx v2) a) dx x = L2.upd H dx x := fun u v w v2 x => by
    funext b
    by_cases h1 : b = dx
    · rw [h1, upd_same, upd_same]
    · rw [upd_ne h1, upd_ne h1]
      by_cases h2 : b = a
      · rw [h2, del_same, na]
      · rw [del_ne h2, upd_ne h1, upd_ne h2, upd_ne h1, upd_ne h2]
  rw [e]
  exact q dx n'
/-- a def of the top whose parameters are not all positional -/
structure Dk (K : PySem.W.Frag) (mg : Str → Option Value) (x : Str) (st : Stmt) (f : Addr) (fd : FuncData) : Prop where
  F : Fun K x x st f fd
  g : mg x = some (.ref f)
def spPickL : Sp := fun vs H Q _ => ∃ (a c p : Addr) (xs : List V), vs = [.ref a, .ref p] ∧ StoreAt H a c ∧ H p = some (.lst xs) ∧ p ≠ a ∧ xs ≠ [] ∧ xs.length ≤ 1000 ∧ Drawn H a c (fun v => v ∈ xs) Q
end K01
namespace K01
open PySem PySem.Spec PyProof.Rows L2 TL HotExc
local macro_rules | `(tactic| walk_at "rd") => `(tactic| simp only [start1, wipe, isR, isBool, isInt, isStr, isLst, isTup, tAsg, gName, gSub, tVar, tC, tOp, tUn, tTest, tIfS, tRet, tRetN, tDrop, tB, tAnd, tOr, tNot, tAndV, tOrV, tNotV, tIf, tCB, tCons, tNil, tNext, tCall, tBM, tTup, tLst, rI0, rI, rEq, rNe, scal, forR_eq, forR2_eq, forS_eq, forL_eq, lcT_eq, lcRT_eq, lcS_eq, rLenX, rLenS, rListOf, tRevL, rMulS, rRepL, rCatL, tPart, tNoPart, CwR.tReplC, rAllK, rInSg, rNinSg, sgn_inj, rAddS, rInSt, tChain, tM1, tM0, rSplitN, rJoinN, exists_eq, rIntI, rIntB, rIntS, rStrI, rAbs, rOrd, rMin, rMax, rIxL, rIxX, rSetL, rAppend, rIxS, rSlS, rSlL, tSl, List.map_cons, List.map_nil, List.replicate_succ, List.replicate_zero, List.length_cons, List.length_nil, Nat.reduceSub, Nat.reduceAdd, Nat.zero_add, Nat.sub_self, List.getElem?_cons_zero, List.getElem?_cons_succ, List.set_cons_zero, List.set_cons_succ, List.append_nil, List.nil_append, List.cons_append, Option.some.injEq, not_true_eq_false, reduceCtorEq, exists_eq_left', exists_eq_left, exists_eq', exists_and_left, exists_and_right, V.int.injEq, V.str.injEq, V.bl.injEq, V.ref.injEq, List.cons.injEq, and_true, true_and, and_assoc, decide_eq_true_eq, Bool.not_eq_true', decide_eq_false_iff_not, ite_true, ite_false, if_true, if_false, Bool.not_true, Bool.not_false, Bool.false_eq_true, eq_self_iff_true, reduceIte, ne_eq, Int.reduceEq, not_false_eq_true])
local macro_rules | `(tactic| walk_at "rt") => `(tactic| try walk_at "rd")
local macro_rules | `(tactic| walk_at "st") => `(tactic| (walk_at "rt"; refine r_seq ?_; walk_at "rt"))
local macro_rules | `(tactic| walk_at "hp") => `(tactic| first | assumption | exact upd_same | (rw [upd_ne (by assumption)]; walk_at "hp"))
local macro_rules | `(tactic| walk_at "ex1") => `(tactic| ((with_reducible refine Exists.intro ?w (And.intro ?hx ?_)); (case hx => first | exact sq_of (by walk_at "hp") | exact .inl (sq_of (by walk_at "hp")) | exact rfl | (show _ = some (HO.lst _); walk_at "hp"))))
local macro_rules | `(tactic| walk_at "ex") => `(tactic| repeat (first | walk_at "ex1" | walk_at "rd"))
theorem store_tup {H : Hp} {a c l : Addr} {xs : List V} (S : StoreAt H a c) (h : H l = some (.tup xs)) : l ≠ a := fun e => by
  obtain ⟨_, _, _, _, _, h2, _⟩ := S.ex
  rw [e, h2] at h
  cases h
def spLaw (K : PySem.W.Frag) : Sp := fun vs H Q _ => ∃ (a : Addr) (ns : List Int), vs = [.ref a] ∧ SqL K H a (ns.map V.int) ∧ ns.length ≤ 63 ∧ ∀ H', Q (.bl true) H'
section
variable {P : Program} {w : World} {K : PySem.W.Frag} {mg : Str → Option Value} {base : Heap}
theorem ok_pickL {f f_take : Addr} {fd fd_take : FuncData} (B : Bi mg) (D : Dn K mg "_law_pick" s_pick ["store", "row"] f fd) (D_take : Dn K mg "_law_take" s_take ["store", "many"] f_take fd_take)
    (G_take : FnOk P w K mg base CX0 2 f_take fd_take ["store", "many"] spTake) : FnOk P w K mg base CX0 3 f fd ["store", "row"] spPickL := by
  refine D.F.ok sc_pick (fun vs H Q E h => ?_) (fun cdv A outer s H vs Q E hr h => ?_)
  · obtain ⟨a, c, p, xs, rfl, _⟩ := h
    rfl
  · obtain ⟨a, c, p, xs, rfl, S, hp, hpa, hne, hl, q⟩ := h
    refine ⟨_, (pss_cons (ps_if (pt_cmpR op_eq (pe_callB (call_lenXK (K := K)) (by rfl) B.len PySem.boot_len (pa_cons (pv 1) pa_nil)) pe_int (nomark _)) (pss_one (ps_ret pe_non)) pss_nil)
      (pss_one (ps_ret (pe_ix (ix_listK (K := K)) (pv 1) (pe_call G_take (hr.mono (by omega)) (by rfl) D_take.g D_take.F.kp D_take.b .nil pass0 (pa_cons (pv 0) (pa_cons (pe_callB (call_lenXK (K := K)) (by rfl) B.len PySem.boot_len (pa_cons (pv 1) pa_nil)) pa_nil))) (fun _ _ => rfl)))))
, ?_⟩
    have hpos : 0 < xs.length := List.length_pos_iff.mpr hne
    walk_at "st"
    refine ⟨_, .inl (sq_of hp), ite2 (fun e => absurd e (by omega)) (fun _ => ?_)⟩
    walk_at "rt"
    refine ⟨_, .inl (sq_of hp), ?_⟩
    refine ⟨a, c, _, rfl, S, by omega, fun v H' S' b' ⟨r, e, r0, r1⟩ => ?_⟩
    subst e
    obtain ⟨k, hk, hk2⟩ := atI_get (xs := xs) (i := r) r0 (by omega)
    walk_at "rt"
    exact ⟨_, sq_of (b' p _ hpa hp), _, hk, q _ _ S' b' (List.mem_of_getElem? hk2)⟩
end
end K01
/-! f( *x, e ): a starred argument ahead of others -/
namespace HotExc
open PySem PySem.Spec PyProof.Rows L2
theorem evalArgs_more {M : Model} {A : Around} {E : Value → Shared → Prop} {s : Shared} {f : Value} {b : Bool} {x : Sem Value} {y : Bool × Sem Value} {rest : List (Bool × Sem Value)} {Q : Args → Shared → Prop}
    (h : wpAny M A (spliced ((b, x) :: y :: rest)) (fun vs s' => Q ⟨vs, []⟩ s') E s) : wpAny M A (evalArgs f true ((b, x) :: y :: rest) []) Q E s := by
  unfold evalArgs
  cases b with
  | false =>
    show wpAny M A (spliced ((false, x) :: y :: rest) >>= _) Q E s
    refine wpAny_bind (wpAny_mono h (fun vs s' h' => ?_) fun _ _ x => x)
    refine wpAny_holding ?_
    exact wpAny_bind (wpAny_pure (wpAny_bind (wpAny_pure (wpAny_pure h'))))
  | true =>
    show wpAny M A (spliced ((true, x) :: y :: rest) >>= _) Q E s
    refine wpAny_bind (wpAny_mono h (fun vs s' h' => ?_) fun _ _ x => x)
    refine wpAny_holding ?_
    exact wpAny_bind (wpAny_pure (wpAny_bind (wpAny_pure (wpAny_pure h'))))
def tCallT (sp : Sp) (E : XK) (t : TA) : TE := fun σ H Q => t σ H fun vs H1 => sp vs H1 Q E
theorem pe_callT {X : Cx} {CX : CXT} {k : Nat} {f : Addr} {fd : FuncData} {ps : List Str} {sp : Sp} {E : XK} {x : Str} {p sp_ pos : Pos} {e e2 : Expr} {es : List Expr} {t : TA}
    (F : FnOk X.prog X.w X.K X.mg X.base CX k f fd ps sp) (hr : Room k X.A) (hg : Gl X x) (hm : X.mg x = some (.ref f)) (hk : PySem.W.keepIn X.K (.ref f) = true) (hb : Binds X.K fd ps []) (hx : Passes CX X E) (ha : PA X (.Starred e sp_ :: e2 :: es) t)
    (hdb : (x == ("__debug__" : Str)) = false := by decide) (he : starEach (.Starred e sp_ :: e2 :: es) X.env = (true, eval e X.env) :: starEach (e2 :: es) X.env := by rfl)
    (he2 : starEach (e2 :: es) X.env = (false, eval e2 X.env) :: starEach es X.env := by rfl) : PE X (.Call (.Name x p) (.Starred e sp_ :: e2 :: es) [] pos) (tCallT sp E t) := by
  refine ⟨fun pins s σ H Q I h => ?_⟩
  refine wpAny_Call_Name_kw (ld_glob I hg hm ?_ hdb)
  have z := ha.run pos pins s σ H _ I h
  rw [he, he2] at z ⊢
  refine PySem.W.ks_call rfl (PySem.W.keeps_K hk) (evalArgs_more (thn z fun us s1 ⟨vs, H1, I1, r, q⟩ => ⟨I1.kIn, ?_⟩))
  exact run_fn F hr hb .nil hx I1 r (by rw [List.append_nil]; exact q)
def TTm (c : TT) : Prop := ∀ (σ : L2.St) (H : Hp) (Q Q' : Bool → Hp → Prop), (∀ b H, Q b H → Q' b H) → c σ H Q → c σ H Q'
theorem r_while {c : TT} {tb : TS} {D : Ends} {σ : L2.St} {H : Hp} (hm : TTm c) (W : Nat → L2.St → Hp → Prop) (h0 : ∃ m, W m σ H)
    (hs : ∀ m σ H, W m σ H → ∀ N : L2.St → Hp → Prop, (∀ m' σ' H', m' < m → W m' σ' H' → N σ' H') → c σ H fun b H1 => if b = true then tb { D with nx := N, ct := N, bk := D.nx } σ H1 else D.nx σ H1) : tWhile c tb D σ H := by
  refine ⟨W, h0, fun m σ H w => ?_⟩
  refine hm σ H _ _ (fun b H1 q => ?_) (hs m σ H w (fun σ' H' => ∃ m', m' < m ∧ W m' σ' H') fun m' σ' H' l w => ⟨m', l, w⟩)
  cases b with
  | true => exact ⟨_, fun σ' H' h => h, q⟩
  | false => exact q
theorem mono_notN {i : Nat} : TTm (tTest (tOp (fun x y H Q => y = .non ∧ Q (.bl (!decide (x = .non))) H) (tVar i) (tC .non))) := by
  rintro σ H Q Q' k ⟨x, hx, hy, b, e, q⟩
  exact ⟨x, hx, hy, b, e, k _ _ q⟩
end HotExc
namespace Tw
/-! ### trees, their text, the machine that reads it -/
inductive F where
  | nil
  | cons (d : List Nat) (s r : F)
def F.cnt : F → Nat
  | .nil => 0
  | .cons _ s r => 1 + s.cnt + r.cnt
def F.dep : F → Nat
  | .nil => 0
  | .cons _ s r => max (1 + s.dep) r.dep
def F.len : F → Nat
  | .nil => 0
  | .cons _ _ r => 1 + r.len
def F.tx : F → List Nat
  | .nil => []
  | .cons d s r => d ++ 40 :: (s.tx ++ 41 :: r.tx)
def F.snoc : F → List Nat → F → F
  | .nil, d, s => .cons d s .nil
  | .cons e t r, d, s => .cons e t (r.snoc d s)
def F.ps : F → List (List Nat × F)
  | .nil => []
  | .cons d s r => (d, s) :: r.ps
def F.of : List (List Nat × F) → F
  | [] => .nil
  | (d, s) :: r => .cons d s (F.of r)
def low (c : Nat) : Prop := 97 ≤ c ∧ c ≤ 122
def lod (c : Nat) : Prop := (97 ≤ c ∧ c ≤ 122) ∨ (48 ≤ c ∧ c ≤ 57)
instance (c : Nat) : Decidable (low c) := by unfold low; infer_instance
instance (c : Nat) : Decidable (lod c) := by unfold lod; infer_instance
/-- a place name -/
def nm : List Nat → Prop
  | [] => False
  | c :: r => low c ∧ r.length ≤ 5 ∧ ∀ x ∈ r, lod x
instance : (l : List Nat) → Decidable (nm l)
  | [] => isFalse id
  | c :: r => by unfold nm; infer_instance
def okd (d : List Nat) : Prop := d = [45] ∨ nm d
def F.good : F → Prop
  | .nil => True
  | .cons d s r => okd d ∧ s.good ∧ r.good
structure S where
  w : List Nat
  b : Nat
  n : Nat
def step (s : S) (c : Nat) : Option S :=
  if c = 40 ∧ s.w ≠ [] then some ⟨[], s.b + 1, s.n + 1⟩
  else if c = 41 ∧ s.w = [] ∧ 0 < s.b then some ⟨[], s.b - 1, s.n⟩
  else if s.w = [] ∧ (c = 45 ∨ nm [c]) ∧ s.b < 13 ∧ s.n < 2000 then some ⟨[c], s.b, s.n⟩
  else if s.w ≠ [] ∧ nm (s.w ++ [c]) then some ⟨s.w ++ [c], s.b, s.n⟩
  else none
def run (s : S) (i : Nat) : List Nat → Option Nat
  | [] => if s.w ≠ [] ∨ 0 < s.b then some i else none
  | c :: r => match step s c with
    | some t => run t (i + 1) r
    | none => some i
def fault (l : List Nat) : Option Nat := run ⟨[], 0, 0⟩ 0 l
theorem low_lod {c : Nat} (h : low c) : lod c := .inl h
theorem low_ne {c : Nat} (h : low c) : c ≠ 40 ∧ c ≠ 41 ∧ c ≠ 45 := by obtain ⟨h1, h2⟩ := h; omega
theorem lod_ne {c : Nat} (h : lod c) : c ≠ 40 ∧ c ≠ 41 ∧ c ≠ 45 := by rcases h with ⟨h1, h2⟩ | ⟨h1, h2⟩ <;> omega
theorem nm_ne {d : List Nat} (h : nm d) : d ≠ [] := by rintro rfl; exact h
theorem nm_mem {d : List Nat} (h : nm d) {c : Nat} (m : c ∈ d) : lod c := by
  cases d with
  | nil => cases h
  | cons x r =>
    rcases List.mem_cons.mp m with rfl | m
    · exact .inl h.1
    · exact h.2.2 c m
theorem okd_ne {d : List Nat} (h : okd d) : d ≠ [] := by
  rcases h with rfl | h
  · simp
  · exact nm_ne h
theorem okd_len {d : List Nat} (h : okd d) : d.length ≤ 6 := by
  rcases h with rfl | h
  · simp
  · cases d with
    | nil => simp
    | cons x r => have := h.2.1; simp; omega
theorem okd_mem {d : List Nat} (h : okd d) {c : Nat} (m : c ∈ d) : c ≠ 40 ∧ c ≠ 41 := by
  rcases h with rfl | h
  · rw [List.mem_singleton.mp m]; omega
  · exact ⟨(lod_ne (nm_mem h m)).1, (lod_ne (nm_mem h m)).2.1⟩
theorem nm_one {c : Nat} : nm [c] ↔ low c := by
  show (low c ∧ ([] : List Nat).length ≤ 5 ∧ ∀ x ∈ ([] : List Nat), lod x) ↔ low c
  simp
theorem nm_snoc {w : List Nat} {c : Nat} (h : nm w) : nm (w ++ [c]) ↔ w.length < 6 ∧ lod c := by
  cases w with
  | nil => cases h
  | cons x r =>
    show (low x ∧ (r ++ [c]).length ≤ 5 ∧ ∀ y ∈ r ++ [c], lod y) ↔ _
    constructor
    · rintro ⟨_, h1, h2⟩
      rw [List.length_append] at h1
      simp only [List.length_cons, List.length_nil] at h1 ⊢
      exact ⟨by omega, h2 c (by simp)⟩
    · rintro ⟨h1, h2⟩
      simp only [List.length_cons] at h1
      refine ⟨h.1, by rw [List.length_append]; simp; omega, fun y hy => ?_⟩
      rcases List.mem_append.mp hy with hy | hy
      · exact h.2.2 y hy
      · rw [List.mem_singleton.mp hy]; exact h2
theorem nm_dash {c : Nat} : ¬ nm ([45] ++ [c]) := by
  rintro ⟨h, _⟩
  have := h.1
  omega
/-! steps -/
theorem step_open {w : List Nat} {b n : Nat} (h : w ≠ []) : step ⟨w, b, n⟩ 40 = some ⟨[], b + 1, n + 1⟩ := by
  unfold step
  rw [if_pos ⟨rfl, h⟩]
theorem step_close {b n : Nat} (h : 0 < b) : step ⟨[], b, n⟩ 41 = some ⟨[], b - 1, n⟩ := by
  unfold step
  rw [if_neg (by simp), if_pos ⟨rfl, rfl, h⟩]
theorem step_first {c b n : Nat} (h : c = 45 ∨ low c) (hb : b < 13) (hn : n < 2000) : step ⟨[], b, n⟩ c = some ⟨[c], b, n⟩ := by
  have h1 : c ≠ 41 := by
    rcases h with rfl | h
    · omega
    · exact (low_ne h).2.1
  unfold step
  rw [if_neg (by simp), if_neg (by simp [h1]), if_pos ⟨rfl, by rw [nm_one]; exact h, hb, hn⟩]
theorem step_odd {c b n : Nat} (h : c ≠ 45) (h2 : ¬ low c) (h3 : c ≠ 41 ∨ b = 0) : step ⟨[], b, n⟩ c = none := by
  unfold step
  rw [if_neg (by simp), if_neg (by rintro ⟨h4, _, h5⟩; simp only at h5; rcases h3 with h3 | h3 <;> omega), if_neg (by rw [nm_one]; rintro ⟨_, h4 | h4, _⟩ <;> contradiction), if_neg (by simp)]
theorem step_full {c b n : Nat} (h : 13 ≤ b ∨ 2000 ≤ n) (h3 : c ≠ 41 ∨ b = 0) : step ⟨[], b, n⟩ c = none := by
  unfold step
  rw [if_neg (by simp), if_neg (by rintro ⟨h4, _, h5⟩; simp only at h5; rcases h3 with h3 | h3 <;> omega), if_neg (by rintro ⟨_, _, h4, h5⟩; rcases h with h | h <;> simp only at h4 h5 <;> omega), if_neg (by simp)]
theorem step_more {w : List Nat} {c b n : Nat} (hw : w ≠ []) (h : nm (w ++ [c])) : step ⟨w, b, n⟩ c = some ⟨w ++ [c], b, n⟩ := by
  have h1 := (lod_ne (nm_mem h (List.mem_append_right _ (List.mem_singleton.mpr rfl))))
  unfold step
  rw [if_neg (by rintro ⟨h2, _⟩; exact h1.1 h2), if_neg (by rintro ⟨_, h2, _⟩; exact hw h2), if_neg (by rintro ⟨h2, _⟩; exact hw h2), if_pos ⟨hw, h⟩]
theorem step_stop {w : List Nat} {c b n : Nat} (hw : w ≠ []) (h : ¬ nm (w ++ [c])) (h1 : c ≠ 40) : step ⟨w, b, n⟩ c = none := by
  unfold step
  rw [if_neg (by rintro ⟨h2, _⟩; exact h1 h2), if_neg (by rintro ⟨_, h2, _⟩; exact hw h2), if_neg (by rintro ⟨h2, _⟩; exact hw h2), if_neg (by rintro ⟨_, h2⟩; exact h h2)]
theorem run_some {s t : S} {c i : Nat} {r : List Nat} (h : step s c = some t) : run s i (c :: r) = run t (i + 1) r := by
  show (match step s c with | some t => run t (i + 1) r | none => some i) = _
  rw [h]
theorem run_none {s : S} {c i : Nat} {r : List Nat} (h : step s c = none) : run s i (c :: r) = some i := by
  show (match step s c with | some t => run t (i + 1) r | none => some i) = _
  rw [h]
/-- the rest of a name -/
theorem run_name : ∀ (m w : List Nat) (b n i : Nat) (r : List Nat), nm w → nm (w ++ m) → run ⟨w, b, n⟩ i (m ++ r) = run ⟨w ++ m, b, n⟩ (i + m.length) r
  | [], w, b, n, i, r, _, _ => by rw [List.append_nil]; rfl
  | c :: m, w, b, n, i, r, hw, h => by
    have e : w ++ c :: m = (w ++ [c]) ++ m := by rw [List.append_assoc]; rfl
    have h1 : nm (w ++ [c]) := by
      rw [nm_snoc hw]
      refine ⟨?_, nm_mem h (by simp)⟩
      cases w with
      | nil => cases hw
      | cons x t =>
        have := h.2.1
        simp at this ⊢
        omega
    rw [List.cons_append, run_some (step_more (nm_ne hw) h1), run_name m (w ++ [c]) b n (i + 1) r h1 (e ▸ h), e]
    congr 1
    simp
    omega
/-- a deed, up to its bracket -/
theorem run_deed {d : List Nat} {b n i : Nat} {r : List Nat} (h : okd d) (hb : b < 13) (hn : n < 2000) : run ⟨[], b, n⟩ i (d ++ r) = run ⟨d, b, n⟩ (i + d.length) r := by
  rcases h with rfl | h
  · exact run_some (step_first (.inl rfl) hb hn)
  · cases d with
    | nil => cases h
    | cons c m =>
      rw [List.cons_append, run_some (step_first (.inr h.1) hb hn), run_name m [c] b n (i + 1) r (nm_one.mpr h.1) h]
      congr 1
      simp
      omega
theorem run_tx : ∀ (f : F) (b n i : Nat) (r : List Nat), f.good → b + f.dep ≤ 13 → n + f.cnt ≤ 2000 → run ⟨[], b, n⟩ i (f.tx ++ r) = run ⟨[], b, n + f.cnt⟩ (i + f.tx.length) r
  | .nil, b, n, i, r, _, _, _ => rfl
  | .cons d s t, b, n, i, r, hg, hb, hn => by
    obtain ⟨h1, h2, h3⟩ := hg
    simp only [F.dep, F.cnt] at hb hn
    have e : (F.cons d s t).tx ++ r = d ++ 40 :: (s.tx ++ 41 :: (t.tx ++ r)) := by simp [F.tx]
    rw [e, run_deed h1 (by omega) (by omega), run_some (step_open (okd_ne h1)), run_tx s _ _ _ _ h2 (by omega) (by omega), run_some (step_close (by omega)), run_tx t _ _ _ _ h3 (by omega) (by omega)]
    simp only [F.cnt, F.tx, List.length_append, List.length_cons]
    congr 1
    · congr 1
      omega
    · omega
theorem fault_tx {f : F} (h : f.good) (hb : f.dep ≤ 13) (hn : f.cnt ≤ 2000) : fault f.tx = none := by
  have := run_tx f 0 0 0 [] h (by omega) (by omega)
  rw [List.append_nil] at this
  rw [fault, this]
  rfl
/-! a text tells its tree -/
theorem cut_at {c : Nat} : ∀ (d e x y : List Nat), c ∉ d → c ∉ e → d ++ c :: x = e ++ c :: y → d = e ∧ x = y
  | [], [], x, y, _, _, h => ⟨rfl, by simpa using h⟩
  | [], a :: e, x, y, _, h2, h => by
    simp only [List.nil_append, List.cons_append, List.cons.injEq] at h
    exact absurd (by rw [h.1]; exact List.mem_cons_self) h2
  | a :: d, [], x, y, h1, _, h => by
    simp only [List.nil_append, List.cons_append, List.cons.injEq] at h
    exact absurd (by rw [← h.1]; exact List.mem_cons_self) h1
  | a :: d, b :: e, x, y, h1, h2, h => by
    simp only [List.cons_append, List.cons.injEq] at h
    obtain ⟨h3, h4⟩ := cut_at d e x y (fun m => h1 (List.mem_cons_of_mem _ m)) (fun m => h2 (List.mem_cons_of_mem _ m)) h.2
    exact ⟨by rw [h.1, h3], h4⟩
/-- what cannot stand at a bracket that closes, or at the end -/
theorem tx_pre : ∀ (f g : F) (x y : List Nat), f.good → g.good → (x = [] ∨ ∃ z, x = 41 :: z) → (y = [] ∨ ∃ z, y = 41 :: z) → f.tx ++ x = g.tx ++ y → f = g ∧ x = y
  | .nil, .nil, x, y, _, _, _, _, h => ⟨rfl, h⟩
  | .nil, .cons d s r, x, y, _, hg, hx, _, h => by
    exfalso
    have e : x = d ++ 40 :: (s.tx ++ 41 :: (r.tx ++ y)) := by simpa [F.tx] using h
    have hd := hg.1
    cases d with
    | nil => exact okd_ne hd rfl
    | cons c d =>
      rcases hx with rfl | ⟨z, rfl⟩
      · cases e
      · have e2 : (41 : Nat) = c := (List.cons.inj e).1
        exact (okd_mem hd List.mem_cons_self).2 e2.symm
  | .cons d s r, .nil, x, y, hg, _, _, hy, h => by
    exfalso
    have e : y = d ++ 40 :: (s.tx ++ 41 :: (r.tx ++ x)) := by simpa [F.tx] using h.symm
    have hd := hg.1
    cases d with
    | nil => exact okd_ne hd rfl
    | cons c d =>
      rcases hy with rfl | ⟨z, rfl⟩
      · cases e
      · have e2 : (41 : Nat) = c := (List.cons.inj e).1
        exact (okd_mem hd List.mem_cons_self).2 e2.symm
  | .cons d s r, .cons e t u, x, y, hf, hg, hx, hy, h => by
    have h' : d ++ 40 :: (s.tx ++ 41 :: (r.tx ++ x)) = e ++ 40 :: (t.tx ++ 41 :: (u.tx ++ y)) := by simpa [F.tx] using h
    obtain ⟨h1, h2⟩ := cut_at d e _ _ (fun m => (okd_mem hf.1 m).1 rfl) (fun m => (okd_mem hg.1 m).1 rfl) h'
    obtain ⟨h3, h4⟩ := tx_pre s t _ _ hf.2.1 hg.2.1 (.inr ⟨_, rfl⟩) (.inr ⟨_, rfl⟩) h2
    obtain ⟨h5, h6⟩ := tx_pre r u x y hf.2.2 hg.2.2 hx hy (List.cons.inj h4).2
    exact ⟨by rw [h1, h3, h5], h6⟩
theorem tx_inj {f g : F} (hf : f.good) (hg : g.good) (h : f.tx = g.tx) : f = g :=
  (tx_pre f g [] [] hf hg (.inl rfl) (.inl rfl) (by rw [h])).1
/-! sizes -/
theorem tx_len : ∀ {f : F}, f.good → f.tx.length ≤ 8 * f.cnt
  | .nil, _ => Nat.le_refl _
  | .cons d s r, h => by
    have h1 := okd_len h.1
    have h2 := tx_len h.2.1
    have h3 := tx_len h.2.2
    simp only [F.tx, F.cnt, List.length_append, List.length_cons]
    omega
theorem len_cnt : ∀ f : F, f.len ≤ f.cnt
  | .nil => Nat.le_refl _
  | .cons d s r => by
    have := len_cnt r
    simp only [F.len, F.cnt]
    omega
theorem len_ps : ∀ f : F, f.ps.length = f.len
  | .nil => rfl
  | .cons d s r => by rw [F.ps, List.length_cons, len_ps r, F.len, Nat.add_comm]
theorem of_ps : ∀ f : F, F.of f.ps = f
  | .nil => rfl
  | .cons d s r => by rw [F.ps, F.of, of_ps r]
theorem ps_of : ∀ l, (F.of l).ps = l
  | [] => rfl
  | (d, s) :: r => by rw [F.of, F.ps, ps_of r]
theorem snoc_ps : ∀ (f : F) (d : List Nat) (s : F), (f.snoc d s).ps = f.ps ++ [(d, s)]
  | .nil, _, _ => rfl
  | .cons e t r, d, s => by rw [F.snoc, F.ps, snoc_ps r, F.ps]; rfl
theorem tx_ps : ∀ f : F, f.tx = (f.ps.map fun p => p.1 ++ 40 :: (p.2.tx ++ [41])).flatten
  | .nil => rfl
  | .cons d s r => by
    rw [F.tx, F.ps, List.map_cons, List.flatten_cons, ← tx_ps r]
    simp
theorem cnt_ps : ∀ f : F, f.cnt = (f.ps.map fun p => 1 + p.2.cnt).sum
  | .nil => rfl
  | .cons d s r => by rw [F.cnt, F.ps, List.map_cons, List.sum_cons, ← cnt_ps r]
theorem cnt_ps2 : ∀ f : F, f.cnt = f.len + (f.ps.map fun p => p.2.cnt).sum
  | .nil => rfl
  | .cons d s r => by rw [F.cnt, F.ps, List.map_cons, List.sum_cons, cnt_ps2 r, F.len]; simp only; omega
theorem dep_mem : ∀ {f : F} {p : List Nat × F}, p ∈ f.ps → 1 + p.2.dep ≤ f.dep
  | .nil, _, h => by cases h
  | .cons d s r, p, h => by
    rw [F.dep]
    rcases List.mem_cons.mp h with rfl | h
    · exact Nat.le_max_left _ _
    · exact Nat.le_trans (dep_mem h) (Nat.le_max_right _ _)
theorem cnt_mem {f : F} {p : List Nat × F} (h : p ∈ f.ps) : 1 + p.2.cnt ≤ f.cnt := by
  have : ∀ (l : List (List Nat × F)), p ∈ l → 1 + p.2.cnt ≤ (l.map fun p => 1 + p.2.cnt).sum := by
    intro l hl
    induction l with
    | nil => cases hl
    | cons q l ih =>
      rw [List.map_cons, List.sum_cons]
      rcases List.mem_cons.mp hl with rfl | hl
      · omega
      · have := ih hl; omega
  rw [cnt_ps f]
  exact this _ h
theorem good_mem : ∀ {f : F} {p : List Nat × F}, f.good → p ∈ f.ps → okd p.1 ∧ p.2.good
  | .nil, _, _, h => by cases h
  | .cons d s r, p, hg, h => by
    rcases List.mem_cons.mp h with rfl | h
    · exact ⟨hg.1, hg.2.1⟩
    · exact good_mem hg.2.2 h
theorem dep_of : ∀ {f : F} {n : Nat}, (∀ p ∈ f.ps, 1 + p.2.dep ≤ n) → f.dep ≤ n
  | .nil, _, _ => Nat.zero_le _
  | .cons d s r, n, h => by
    rw [F.dep]
    exact Nat.max_le.mpr ⟨h (d, s) List.mem_cons_self, dep_of fun p hp => h p (List.mem_cons_of_mem _ hp)⟩
theorem snoc_tx : ∀ (f : F) (d : List Nat) (s : F), (f.snoc d s).tx = f.tx ++ (d ++ 40 :: (s.tx ++ [41]))
  | .nil, d, s => by simp [F.snoc, F.tx]
  | .cons e t r, d, s => by simp [F.snoc, F.tx, snoc_tx r]
theorem snoc_good : ∀ {f : F} {d : List Nat} {s : F}, f.good → okd d → s.good → (f.snoc d s).good
  | .nil, _, _, _, h1, h2 => ⟨h1, h2, trivial⟩
  | .cons e t r, _, _, h, h1, h2 => ⟨h.1, h.2.1, snoc_good h.2.2 h1 h2⟩
theorem snoc_dep : ∀ (f : F) (d : List Nat) (s : F), (f.snoc d s).dep = max f.dep (1 + s.dep)
  | .nil, d, s => by simp [F.snoc, F.dep]
  | .cons e t r, d, s => by
    rw [F.snoc, F.dep, F.dep, snoc_dep r]
    omega
theorem snoc_cnt : ∀ (f : F) (d : List Nat) (s : F), (f.snoc d s).cnt = f.cnt + (1 + s.cnt)
  | .nil, d, s => by simp [F.snoc, F.cnt]
  | .cons e t r, d, s => by
    rw [F.snoc, F.cnt, F.cnt, snoc_cnt r]
    omega
end Tw
namespace K01
open PySem PySem.Spec PyProof.Rows L2 TL HotExc Tw
/-! ### more readings that simp can take -/
def rSumN (K : PySem.W.Frag) (vs : List V) (H : Hp) (Q : VK) : Prop := ∃ a, vs = [V.ref a] ∧ ∃ ns : List Int, SqL K H a (ns.map V.int) ∧ Q (.int ns.sum) H
def rMaxN (K : PySem.W.Frag) (vs : List V) (H : Hp) (Q : VK) : Prop := ∃ a, vs = [V.ref a] ∧ ∃ ns : List Int, SqL K H a (ns.map V.int) ∧ 0 < ns.length ∧ ∀ m, m ∈ ns → (∀ y, y ∈ ns → y ≤ m) → Q (.int m) H
theorem call_sumK {X : Cx} {K : PySem.W.Frag} (h : X.K = K := by rfl) (hc : X.calm = true := by rfl) : CallR X (.builtin "sum") (rSumN K) := h ▸ callR_mono (cr_sum hc) fun _ _ _ ⟨a, e, ns, h, q⟩ => ⟨a, ns, e, h, q⟩
theorem call_maxK {X : Cx} {K : PySem.W.Frag} (h : X.K = K := by rfl) (hc : X.calm = true := by rfl) : CallR X (.builtin "max") (rMaxN K) := h ▸ callR_mono (cr_max hc) fun _ _ _ ⟨a, e, ns, h, h2, q⟩ => ⟨a, ns, e, h, h2, q⟩
section
variable {te : TE} {vs : List Nat} {σ : L2.St} {H1 : Hp} {D : Addr} {Qd : Hp → Prop}
/-- a comprehension over pairs -/
theorem r_lcP {K : PySem.W.Frag} {a : Addr} {j1 j2 : Nat} (xs : List V) (Pv : Nat → Hp → Prop) (h0 : Pv 0 (L2.upd H1 D (.lst []))) (hl : ∀ i H, i ≤ xs.length → Pv i H → SqL K H a xs)
    (hs : ∀ i x H, xs[i]? = some x → Pv i H → ∃ t u v, x = .ref t ∧ SqT K H t [u, v] ∧ wipe (((wipe σ vs).set j1 (some u)).set j2 (some v)) vs = wipe σ vs ∧ ∀ N : VK, (∀ y H4 got, H4 D = some (.lst got) → got.length < sizeLine → Pv (i + 1) (L2.upd H4 D (.lst (got ++ [y]))) → N y H4) → te (((wipe σ vs).set j1 (some u)).set j2 (some v)) H N) (hd : ∀ H, Pv xs.length H → Qd H) :
    LcT (Itl K a) (gTup K 2 (gCons (gName j1) (gCons (gName j2) gNil))) tYes te vs σ H1 D Qd :=
  lc_list (g := gTup K 2 (gCons (gName j1) (gCons (gName j2) gNil))) Pv h0 hl (fun i x H hx hp => by
    obtain ⟨t, u, v, e, h1, h2, h3⟩ := hs i x H hx hp
    refine ⟨t, [u, v], e, h1, rfl, u, [v], rfl, v, [], rfl, rfl, h2, ?_⟩
    simp only [tYes, if_pos]
    exact h3 _ fun y H4 got g1 g2 g3 => ⟨got, g1, g2, g3⟩) hd
end
/-! ### texts and lists of signs -/
def S (l : List Nat) : Str := ⟨l.toArray⟩
theorem tl_S (l : List Nat) : tl (S l) = l := rfl
theorem S_tl (z : Str) : S (tl z) = z := by
  cases z with
  | mk c => simp [S]
theorem S_len (l : List Nat) : (S l).length = l.length := by rw [len_tl, tl_S]
theorem tl_inj {x y : Str} (h : tl x = tl y) : x = y := by rw [← S_tl x, ← S_tl y, h]
theorem S_app (l m : List Nat) : S l ++ S m = S (l ++ m) := tl_inj (by rw [tl_append, tl_S, tl_S, tl_S])
theorem S_inj {l m : List Nat} (h : S l = S m) : l = m := by rw [← tl_S l, ← tl_S m, h]
theorem S_eq {l m : List Nat} : decide (S l = S m) = decide (l = m) := decide_eq_decide.mpr ⟨S_inj, fun e => by rw [e]⟩
theorem S_emp : Str.ofString "" = S [] := tl_inj (by decide +kernel)
theorem S_op : Str.ofString "(" = S [40] := tl_inj (by decide +kernel)
theorem S_cl : Str.ofString ")" = S [41] := tl_inj (by decide +kernel)
theorem S_da : Str.ofString "-" = S [45] := tl_inj (by decide +kernel)
theorem joinL_nil (ps : List (List Nat)) : joinL [] ps = ps.flatten := by
  induction ps with
  | nil => rfl
  | cons p ps ih =>
    cases ps with
    | nil => simp [joinL]
    | cons q r =>
      show p ++ ([] ++ joinL [] (q :: r)) = _
      rw [ih, List.nil_append, List.flatten_cons (l := p)]
theorem join_S (ws : List (List Nat)) : Txt.join (S []) (ws.map S) = S ws.flatten := tl_inj (by
  rw [join_eq, tl_join, tl_S, tl_S, List.map_map, ← joinL_nil]
  congr 1
  exact (List.map_congr_left (g := id) fun l _ => tl_S l).trans (List.map_id ws))
/-! ### trees as data -/
def Fd : F → List Dat
  | .nil => []
  | .cons d s r => .tup [.str (S d), .lst (Fd s)] :: Fd r
def tw (p : List Nat × F) : Dat := .tup [.str (S p.1), .lst (Fd p.2)]
theorem Fd_ps : ∀ f : F, Fd f = f.ps.map tw
  | .nil => rfl
  | .cons d s r => by rw [Fd, F.ps, List.map_cons, Fd_ps r]; rfl
theorem Fd_len (f : F) : (Fd f).length = f.len := by rw [Fd_ps, List.length_map, len_ps]
theorem Fd_dep : ∀ f : F, depL (Fd f) ≤ 2 * f.dep
  | .nil => Nat.le_refl _
  | .cons d s r => by
    have h1 := Fd_dep s
    have h2 := Fd_dep r
    simp only [Fd, depL, Dat.dep, F.dep]
    omega
mutual
theorem At.live {H : Hp} {A : Addr → Prop} : ∀ (d : Dat) (v : V), At H A d v → At H (fun p => A p ∧ H p ≠ none) d v
  | .non, _, h => h
  | .bl _, _, h => h
  | .int _, _, h => h
  | .str _, _, h => h
  | .lst l, _, ⟨a, xs, e, ha, hx, hl, hr⟩ => ⟨a, xs, e, ⟨ha, by rw [hx]; simp⟩, hx, hl, AtL.live l xs hr⟩
  | .tup l, _, ⟨a, xs, e, ha, hx, hl, hr⟩ => ⟨a, xs, e, ⟨ha, by rw [hx]; simp⟩, hx, hl, AtL.live l xs hr⟩
theorem AtL.live {H : Hp} {A : Addr → Prop} : ∀ (l : List Dat) (xs : List V), AtL H A l xs → AtL H (fun p => A p ∧ H p ≠ none) l xs
  | [], _, h => h
  | d :: l, _, ⟨v, r, e, h1, h2⟩ => ⟨v, r, e, At.live d v h1, AtL.live l r h2⟩
end
/-- a tree at a value -/
def TrA (H : Hp) (A : Addr → Prop) (f : F) (v : V) : Prop := At H A (.lst (Fd f)) v
abbrev Tr (H : Hp) (f : F) (v : V) : Prop := TrA H (fun _ => True) f v
theorem TrA.any {H : Hp} {A : Addr → Prop} {f : F} {v : V} (h : TrA H A f v) : Tr H f v := At.mono (fun _ _ => trivial) (fun _ _ _ h => h) _ _ h
theorem TrA.keep {H H' : Hp} {A : Addr → Prop} {f : F} {v : V} (h : TrA H A f v) (k : Keeps H H') : TrA H' A f v := At.mono (fun _ h => h) (fun p o _ h => k p o h) _ _ h
theorem Tr.but {H H' : Hp} {x : Addr} {y : HO} {f : F} {v : V} {A : Addr → Prop} (h : TrA H A f v) (hn : ∀ p, A p → p ≠ x) (k : But x H H') : TrA H' A f v := At.mono (fun _ h => h) (fun p o hp h => k p o (hn p hp) h) _ _ h
/-- the pair of a tree's item -/
def PrA (H : Hp) (A : Addr → Prop) (p : List Nat × F) (x : V) : Prop := ∃ t y, x = .ref t ∧ A t ∧ H t = some (.tup [.str (S p.1), y]) ∧ TrA H A p.2 y
theorem pr_of {H : Hp} {A : Addr → Prop} {p : List Nat × F} {x : V} (h : At H A (tw p) x) : PrA H A p x := by
  obtain ⟨t, xs, rfl, ha, hx, _, v, r, rfl, hv, y, r2, rfl, hy, hr⟩ := h
  have hv : v = .str (S p.1) := hv
  have hr : r2 = [] := hr
  subst hv hr
  exact ⟨t, y, rfl, ha, hx, hy⟩
theorem pr_to {H : Hp} {A : Addr → Prop} {p : List Nat × F} {x : V} (h : PrA H A p x) : At H A (tw p) x := by
  obtain ⟨t, y, rfl, ha, hx, hy⟩ := h
  exact ⟨t, _, rfl, ha, hx, Nat.le_of_ble_eq_true rfl, _, _, rfl, rfl, y, [], rfl, hy, rfl⟩
theorem TrA.get {H : Hp} {A : Addr → Prop} {f : F} {v : V} (h : TrA H A f v) : ∃ (a : Addr) (xs : List V), v = .ref a ∧ A a ∧ H a = some (.lst xs) ∧ xs.length ≤ 1000000 ∧ xs.length = f.len ∧ ∀ (i : Nat) p, f.ps[i]? = some p → ∃ x, xs[i]? = some x ∧ PrA H A p x := by
  obtain ⟨a, xs, e, ha, hx, hl, hr⟩ := h
  refine ⟨a, xs, e, ha, hx, hl, by rw [hr.length, Fd_len], fun i p hp => ?_⟩
  obtain ⟨x, h1, h2⟩ := AtL.get _ xs i (tw p) hr (by rw [Fd_ps, List.getElem?_map, hp]; rfl)
  exact ⟨x, h1, pr_of h2⟩
theorem TrA.inv {H : Hp} {A : Addr → Prop} {f : F} {v : V} (h : TrA H A f v) : ∃ (a : Addr) (xs : List V), v = .ref a ∧ A a ∧ H a = some (.lst xs) ∧ xs.length ≤ 1000000 ∧ xs.length = f.len ∧ ∀ (i : Nat) x, xs[i]? = some x → ∃ p, f.ps[i]? = some p ∧ PrA H A p x := by
  obtain ⟨a, xs, e, ha, hx, hl, hn, hg⟩ := h.get
  refine ⟨a, xs, e, ha, hx, hl, hn, fun i x hi => ?_⟩
  have l1 : i < f.ps.length := by
    rw [len_ps, ← hn]
    exact lt_of_get hi
  obtain ⟨y, h1, h2⟩ := hg i _ (List.getElem?_eq_getElem l1)
  rw [hi] at h1
  cases h1
  exact ⟨_, List.getElem?_eq_getElem l1, h2⟩
theorem mem_get {α : Type} {l : List α} {i : Nat} {x : α} (h : l[i]? = some x) : x ∈ l := List.mem_of_getElem? h
theorem sum_take {α : Type} {l : List α} {i : Nat} {x : α} (h : l[i]? = some x) : l.take (i + 1) = l.take i ++ [x] := by rw [List.take_add_one, h]; rfl
theorem tx_mem {f : F} {p : List Nat × F} (h : p ∈ f.ps) : p.1.length + p.2.tx.length + 2 ≤ f.tx.length := by
  have : ∀ l : List (List Nat × F), p ∈ l → p.1.length + p.2.tx.length + 2 ≤ (l.map fun p => p.1 ++ 40 :: (p.2.tx ++ [41])).flatten.length := by
    intro l hl
    induction l with
    | nil => cases hl
    | cons q l ih =>
      rw [List.map_cons, List.flatten_cons, List.length_append]
      rcases List.mem_cons.mp hl with rfl | hl
      · simp only [List.length_append, List.length_cons, List.length_nil]
        omega
      · have := ih hl; omega
  rw [tx_ps f]
  exact this _ h
theorem len_tx : ∀ f : F, f.len ≤ f.tx.length
  | .nil => Nat.le_refl _
  | .cons d s r => by
    have := len_tx r
    simp only [F.len, F.tx, List.length_append, List.length_cons]
    omega
/-- a def of one tree that tells a thing of it -/
def spTr (n : Nat) (R : F → V) : Sp := fun vs H Q _ => ∃ v f, vs = [v] ∧ Tr H f v ∧ f.dep ≤ n ∧ f.tx.length ≤ 1000000 ∧ ∀ H', Keeps H H' → Q (R f) H'
end K01
namespace WX
open PySem PySem.Spec PyProof.Rows L2
/-! ### -x, x == y, x != y by the class's own defs -/
/-- a def that stands in the class under a name -/
structure Sm (K : PySem.W.Frag) (C : Addr) (m : Str) (f : Addr) : Prop where
  at_ : PySem.W.findIn K (.ref C) m = some (some (.ref f))
  fn : PySem.W.isFn K (.ref f) = true
section
variable {X : Cx} {CX : CXT} {n : Nat} {C f : Addr} {fd : FuncData} {ps : List Str} {sp : Sp} {E : XK}
theorem un_own (S : Sm X.K C "__neg__" f) (F : FnOk X.prog X.w X.K X.mg X.base CX n f fd ps sp) (hr : Room n X.A) (hb : Binds X.K fd ps []) (hx : Passes CX X E) :
    UnR X (unaryOp .USub) (fun x H Q => ∃ a dx fs, x = .ref a ∧ H a = some (.ins C dx fs) ∧ sp [.ref a] H Q E) := by
  intro pins s σ H x v Q I rx h
  obtain ⟨a, dx, fs, rfl, ha, q⟩ := h
  cases rx
  obtain ⟨mA, J, _⟩ := ins_get I.hok ha
  obtain ⟨od, J, _⟩ := J.look
  obtain ⟨m, hF⟩ := I.fr
  exact PySem.W.ksp_neg hF I.ok.mod.kin J S.at_ S.fn (run_fn (vs := [.ref a]) (us := [.ref a]) F hr hb .nil hx I (.cons rfl .nil) q)
/-- what may stand on the right: a text, a number, an instance -/
def Rt (K : PySem.W.Frag) (C : Addr) (y : V) (H : Hp) : Prop := (∃ z, y = .str z) ∨ (∃ i, y = .int i) ∨ ∃ b D dy gs, y = .ref b ∧ H b = some (.ins D dy gs) ∧ PySem.W.notFirst K C (.ref D) = true
theorem Rt.looks {K : PySem.W.Frag} {pins : List (Addr × Obj)} {σ : L2.St} {H : Hp} {s : Shared} {y : V} {u : Value} (h : Rt K C y H) (I : Inv X pins σ H s) (r : RelV y u) (ns : PySem.W.notFirst K C (.type "str") = true) (ni : PySem.W.notFirst K C (.type "int") = true) :
    ∃ tb, PySem.W.Looks (model X.prog X.w) s.heap (typeOf u) tb ∧ PySem.W.notFirst K C tb = true := by
  rcases h with ⟨z, rfl⟩ | ⟨i, rfl⟩ | ⟨b, D, dy, gs, rfl, hb, nf⟩
  · obtain ⟨t, rfl⟩ := r
    exact ⟨_, .of_pure rfl, ns⟩
  · obtain ⟨t, rfl⟩ := r
    exact ⟨_, .of_pure rfl, ni⟩
  · cases r
    obtain ⟨mA, J, _⟩ := ins_get I.hok hb
    obtain ⟨od, J, _⟩ := J.look
    exact ⟨_, J.type, nf⟩
def rOwnC (K : PySem.W.Frag) (C : Addr) (sp : Sp) (E : XK) (g : Bool → Bool) : R2 := fun x y H Q => ∃ a dx fs, x = .ref a ∧ H a = some (.ins C dx fs) ∧ Rt K C y H ∧ sp [x, y] H (fun v H' => ∃ c, v = .bl c ∧ Q (.bl (g c)) H') E
theorem op_eqO (S : Sm X.K C "__eq__" f) (F : FnOk X.prog X.w X.K X.mg X.base CX n f fd ps sp) (hr : Room n X.A) (hb : Binds X.K fd ps []) (hx : Passes CX X E) (ns : PySem.W.notFirst X.K C (.type "str") = true) (ni : PySem.W.notFirst X.K C (.type "int") = true) :
    OpR X (compareOp .Eq) (rOwnC X.K C sp E fun c => c) := by
  intro pins s σ H x y v u Q I rx ry h
  obtain ⟨a, dx, fs, rfl, ha, hy, q⟩ := h
  cases rx
  obtain ⟨mA, J, _⟩ := ins_get I.hok ha
  obtain ⟨od, J, _⟩ := J.look
  obtain ⟨m, hF⟩ := I.fr
  obtain ⟨tb, ht, hn⟩ := hy.looks I ry ns ni
  refine PySem.W.cmp_ofEq (PySem.W.cmp_K hr.units0 hF I.ok.mod.kin J ht hn S.at_ S.fn (wpAny_mono (run_fn (vs := [.ref a, y]) (us := [.ref a, u]) F hr hb .nil hx I (.cons rfl (.cons ry .nil)) q) (fun r s' z => ?_) fun _ _ z => z))
  obtain ⟨v, H', I', rv, c, rfl, q⟩ := z
  cases rv
  exact ⟨.bl c, H', I', rfl, q⟩
/-- x.__ne__(y) is the built-in one, which asks __eq__ -/
structure NeC (K : PySem.W.Frag) (C : Addr) : Prop where
  at_ : PySem.W.findIn K (.ref C) "__ne__" = some (some (.builtin "object.__ne__"))
  ob : PySem.W.subIn K (.ref C) (.type "object") = some true
  ns : PySem.W.notFirst K C (.type "str") = true
  ni : PySem.W.notFirst K C (.type "int") = true
theorem op_neO (N : NeC X.K C) (S : Sm X.K C "__eq__" f) (F : FnOk X.prog X.w X.K X.mg X.base CX n f fd ps sp) (hr : Room (n + 1) X.A) (hb : Binds X.K fd ps []) (hx : Passes CX X E) :
    OpR X (compareOp .NotEq) (rOwnC X.K C sp E fun c => !c) := by
  intro pins s σ H x y v u Q I rx ry h
  obtain ⟨a, dx, fs, rfl, ha, hy, q⟩ := h
  cases rx
  obtain ⟨mA, J, _⟩ := ins_get I.hok ha
  obtain ⟨od, J, _⟩ := J.look
  obtain ⟨m, hF⟩ := I.fr
  obtain ⟨tb, ht, hn⟩ := hy.looks I ry N.ns N.ni
  have sb : Sub X n X.A.in1 := Sub.in1 ⟨hr, rfl⟩
  have run : wpAny (model X.prog X.w) X.A.in1 (call (.ref f) [.ref a, u]) (EP X pins σ fun v H' => ∃ c, v = .bl c ∧ Q (.bl (!c)) H') X.xe s := by
    have r2 : Vals [V.ref a, y] [Value.ref a, u] := .cons rfl (.cons ry .nil)
    have hl := F.len _ _ _ _ q
    refine wpAny_call (codeAny_mono (F.run X.A.in1 X.stack s H ⟨[.ref a, u], []⟩ [.ref a, u] [.ref a, y] _ E sb.room I.env0.in1 (by have := hb s [.ref a, u] I.kIn (by simpa using hl); simpa using this) r2 q) fun r s' hq => ?_)
    rcases r with e | (_ | _ | _ | v)
    · exact hx pins σ H s e s' I hq
    · exact False.elim hq
    · exact False.elim hq
    · exact False.elim hq
    · exact I.after hq
  have ask : wpAny (model X.prog X.w) X.A (call (.builtin "object.__ne__") [.ref a, u]) (PySem.W.CmpBack (EP X pins σ Q)) X.xe s := by
    have t2 : PySem.W.Looks (model X.prog X.w) s.heap (isInstance (.ref a) (.type "object")) true := J.type.andThen (PySem.W.looks_subIn I.kIn N.ob)
    refine wpAny_call (codeAny_call_builtin PySem.F.cmp_object.ne.plain PySem.F.cmpEntry_ne (PySem.W.check_slot PySem.F.cmpKind_ne PySem.F.cmpSplit_ne t2 (PySem.F.cmpArgs_ne _ _) ?_))
    unfold Builtin.«object.__ne__»
    refine wpAny_bind (wpAny_of_eq (a := (Value.ref a, [u])) (by first | rfl | kernel_rfl) ?_)
    refine wpAny_bind (wpAny_cRoomFor sb.room.units0 ?_)
    refine wpAny_bind (PySem.W.ifBound_K I.kIn J S.at_ S.fn (wpAny_mono run (fun r s' z => ?_) fun _ _ z => z))
    obtain ⟨w0, H', I', rv, c, rfl, q⟩ := z
    cases rv
    show wpAny _ _ (truthy (.bool c) >>= _) _ _ _
    refine wpAny_bind (wpAny_of_eq (a := c) (by first | rfl | kernel_rfl) (wpAny_pure ?_))
    exact ⟨.bl (!c), H', I', rfl, q⟩
  have one : wpAny (model X.prog X.w) X.A (tryCompare (.ref a) "__ne__" u) (fun r s' => ∃ v, r = some v ∧ EP X pins σ Q v s') X.xe s := by
    unfold tryCompare
    refine wpAny_bind ?_
    simp only [callSpecialIfBound?, bindSpecialIfBound?]
    refine wpAny_holding (wpAny_bind (wpAny_bind (wpAny_bind (J.type.here ((PySem.W.looks_findIn I.kIn N.at_).here ?_)))))
    refine wpAny_bind (wpAny_askSetting (wpAny_ite ?_))
    have fin : wpAny (model X.prog X.w) X.A (call (.builtin "object.__ne__") ([.ref a] ++ [u]) >>= fun v => pure (some v)) (fun r s' => wpAny (model X.prog X.w) X.A (match r with | some .notImplemented => pure none | none => pure none | some v => pure (some v)) (fun r s' => ∃ v, r = some v ∧ EP X pins σ Q v s') X.xe s') X.xe s :=
      wpAny_bind (wpAny_mono ask (fun v s' h' => wpAny_pure (by cases v <;> first | exact h'.elim | exact wpAny_pure ⟨_, rfl, h'⟩)) fun _ _ h' => h')
    simp only [PySem.F.cmp_object.ne.bind]
    split
    · exact wpAny_bind (wpAny_pure (wpAny_pure (by exact fin)))
    · exact wpAny_tryCatch (wpAny_bind (wpAny_pure (wpAny_pure (by exact fin))))
  refine PySem.W.cmp_ofNotEq ?_
  unfold richCompare
  simp only [oneThing_ref]
  refine wpAny_holding (wpAny_bind (wpAny_cRoomFor hr.units0 (wpAny_bind (J.type.here (wpAny_bind (ht.here ?_))))))
  split
  · rename_i z
    have e : PySem.W.subIn X.K tb (.ref C) = some false := by
      rcases Bool.or_eq_true_iff.mp hn with e | e
      · rw [beq_iff_eq.mp e] at z
        simp at z
      · exact beq_iff_eq.mp e
    refine wpAny_bind ((PySem.W.looks_subIn I.kIn e).here ?_)
    simp only [Bool.false_eq_true, if_false]
    refine wpAny_bind (wpAny_mono one (fun r s' z => ?_) fun _ _ z => z)
    obtain ⟨v, rfl, z⟩ := z
    exact wpAny_pure z
  · refine wpAny_bind (wpAny_pure ?_)
    simp only [Bool.false_eq_true, if_false]
    refine wpAny_bind (wpAny_mono one (fun r s' z => ?_) fun _ _ z => z)
    obtain ⟨v, rfl, z⟩ := z
    exact wpAny_pure z
end
end WX
namespace WX
open PySem PySem.Spec PyProof.Rows L2
/-! ### for x in o, where o.__iter__ tells a new walk over a list -/
/-- a promise that may speak of how many cells there are -/
structure FnOkS (P : Program) (w : World) (K : PySem.W.Frag) (mg : Str → Option Value) (base : Heap) (CX : CXT) (k : Nat) (f : Addr) (fd : FuncData) (ps : List Str) (sp : Nat → Sp) : Prop where
  len : ∀ n vs H Q E, sp n vs H Q E → vs.length = ps.length
  run : ∀ (A : Around) (ou : List Env) (s : Shared) (H : Hp) (ar : Args) (us : List Value) (vs : List V) (Q : VK) (E : XK), Room k A → Env0 P w K mg base A ou s H → BindsTo s fd ar (ps.zip us) → Vals vs us → sp s.heap.objs.size vs H Q E → codeAny (model P w) A (.call (.ref f) ar) (CR CX ou P w H s Q E) s
theorem okS {CX : CXT} {P : Program} {w : World} {K : PySem.W.Frag} {mg : Str → Option Value} {base : Heap} {x qual : Str} {st : Stmt} {f : Addr} {fd : FuncData} {N ps : List Str} {k : Nat} {sp : Nat → Sp} (F : Fun K x qual st f fd) (S : FnScope N ps (defScope st)) (ln : ∀ n vs H Q E, sp n vs H Q E → vs.length = ps.length)
    (go : ∀ (cv : Value) (A : Around) (ou : List Env) (s : Shared) (H : Hp) (vs : List V) (Q : VK) (E : XK), Room k (A.deeper (envOfC qual (defScope st) s.heap.objs.size f cv)) → sp s.heap.objs.size vs H Q E →
      ∃ t, PSs (cxOf CX P w K mg base N qual (defScope st) f cv A ou s H E) (defBody st) t ∧ t { nx := fun _ H' => Q .non H', rt := Q } (L2.start N vs) H) : FnOkS P w K mg base CX (k + 1) f fd ps sp := by
  obtain ⟨oc, od, kV, doc, pm, an, cv, ct, osl, e, lk, hcd⟩ := F.ex
  subst e
  refine ⟨ln, fun A ou s H ar us vs Q E hr e0 hb r hsp => ?_⟩
  have KX : K.In s.heap := e0.mod.kin.keeps (fun b o e => (e0.bs b o e).1)
  have hkind : ∀ y ∈ ps.zip us, (defScope st).names.lookup y.1 = some .local ∨ ((defScope st).names.lookup y.1 = some .cell ∧ ((cellsFrom (s.heap.objs.size + 1) (defScope st).names []).lookup y.1).isSome = true) := by
    intro ⟨n, v⟩ hy
    exact (S.par n (List.of_mem_zip hy).1).imp id (fun q => ⟨q, PySem.W.cellsFrom_some _ _ _ (.inl q)⟩)
  refine codeAny_call_function hr.depth (KX _ _ lk) rfl S.co S.gen rfl (PySem.W.codeRec_of KX hcd) (hb _ _ _ _ (wpAny_newFunctionEnv_cells S.kind hkind fun en he s1 x => ?_))
  subst he
  refine ⟨(e0.mod.nolimit.keeps fun b o e => (e0.bs b o e).1).keeps x.toInCall.keep, codeAny_func ?_⟩
  obtain ⟨t, ht, hq⟩ := go cv A ou s H vs Q E (hr.deeper _) hsp
  refine wpAny_mono (ht.run [] s1 (L2.start N vs) H _ (inv_start S hr.hd e0 (ln _ _ _ _ _ hsp) r x) hq) (fun fl s' hs => ?_) fun _ _ hs => hs
  rcases fl with _ | _ | _ | u
  · obtain ⟨σ', H', J, q⟩ := hs
    exact ⟨.non, H', J.os, J.bare, J.base, J.hok, rfl, q⟩
  · exact False.elim (let ⟨_, _, _, q⟩ := hs; q)
  · exact False.elim (let ⟨_, _, _, q⟩ := hs; q)
  · obtain ⟨v, σ', H', J, rv, q⟩ := hs
    exact ⟨v, H', J.os, J.bare, J.base, J.hok, rv, q⟩
/-- what such an __iter__ promises; R a l H: l is the list of the instance at a -/
def spIter (K : PySem.W.Frag) (R : Addr → Addr → Hp → Prop) : Nat → Sp := fun n vs H Q _ => ∃ (a l : Addr) (zs : List V), vs = [.ref a] ∧ R a l H ∧ SqL K H l zs ∧ ∀ it, H it = none → n ≤ it → Q (.ref it) (L2.upd H it (ItO l it 0))
section
variable {X : Cx} {CX : CXT} {n : Nat} {C f : Addr} {fd : FuncData} {ps : List Str} {E : XK} {R : Addr → Addr → Hp → Prop}
theorem iter_own {A : Around} {pins : List (Addr × Obj)} {σ : L2.St} {H : Hp} {s : Shared} {a dx l : Addr} {fs : List (Str × V)} {zs : List V} {Q : Value → Shared → Prop} (S : Sm X.K C "__iter__" f) (F : FnOkS X.prog X.w X.K X.mg X.base CX n f fd ps (spIter X.K R)) (sb : Sub X n A) (hb : Binds X.K fd ps []) (hx : Passes CX X E)
    (I : Inv X pins σ H s) (ha : H a = some (.ins C dx fs)) (hR : R a l H) (hz : SqL X.K H l zs)
    (h : ∀ it s', Inv X pins σ H s' → FpOk X pins H it → s'.heap.get? it = some (GNX.itObj l 0) → H it = none → Q (.ref it) s') : wpAny (model X.prog X.w) A (pyIter (.ref a)) Q X.xe s := by
  obtain ⟨mA, J, _⟩ := ins_get I.hok ha
  obtain ⟨od, J, _⟩ := J.look
  obtain ⟨m, hF⟩ := I.fr
  have e0 : Env0 X.prog X.w X.K X.mg X.base A X.stack s H := by
    obtain ⟨e1, e2, e3, e4, e5, e6, e7, e8⟩ := I.env0
    exact ⟨by rw [sb.fr]; exact e1, e2, e3, e4, e5, e6, e7, e8⟩
  have hsp : spIter X.K R s.heap.objs.size [.ref a] H (fun v H' => ∃ it, v = .ref it ∧ H it = none ∧ s.heap.objs.size ≤ it ∧ H' = L2.upd H it (ItO l it 0)) E := ⟨a, l, zs, rfl, hR, hz, fun it h1 h2 => ⟨it, rfl, h1, h2, rfl⟩⟩
  have hl := F.len _ _ _ _ _ hsp
  refine PySem.W.owit_iter hF I.ok.mod.kin J S.at_ S.fn (wpAny_call (codeAny_mono (F.run A X.stack s H ⟨[.ref a], []⟩ [.ref a] [.ref a] _ E sb.room e0 (by have := hb s [.ref a] I.kIn (by simpa using hl); simpa using this) (.cons rfl .nil) hsp) fun r s' hq => ?_))
  rcases r with e | (_ | _ | _ | u)
  · exact hx pins σ H s e s' I hq
  · exact False.elim hq
  · exact False.elim hq
  · exact False.elim hq
  · obtain ⟨v, H', I', rv, it, rfl, h1, h2, rfl⟩ := I.after hq
    cases rv
    have e1 : L2.upd H it (ItO l it 0) it = some (ItO l it 0) := upd_same
    have o := itO_get I' e1
    have J := ItX.inv_drop (φ := fun h => h.get? it = some (GNX.itObj l 0)) I' e1
    have K := ItX.inv_fp I' e1 (Nat.le_trans I.sz h2)
    rw [ItX.dropH_upd h1] at J K
    have hT : s'.TypeIs (.ref it) "list_iterator" := ⟨_, o, rfl⟩
    unfold PySem.W.OwitIt
    exact wpAny_specialOf hT slot_listiter_next.lookup (h it s' J K o h1)
/-- as what a for walks -/
def iOwn (C : Addr) (K : PySem.W.Frag) (R : Addr → Addr → Hp → Prop) (te : TE) : TI := fun σ H S => te σ H fun v H1 => ∃ a dx fs l zs, v = .ref a ∧ H1 a = some (.ins C dx fs) ∧ R a l H1 ∧ SqL K H1 l zs ∧ S (Itl K l) H1
theorem pi_own {tg e : Expr} {te : TE} (S : Sm X.K C "__iter__" f) (F : FnOkS X.prog X.w X.K X.mg X.base CX n f fd ps (spIter X.K R)) (hr : Room n X.A) (hb : Binds X.K fd ps []) (hx : Passes CX X E) (he : PE X e te) : PI X tg e (iOwn C X.K R te) := by
  refine ⟨fun pins s σ H Q I h => thn (he.run pins s σ H _ I h) fun v s1 ⟨y, H1, I1, r1, a, dx, fs, l, zs, ey, ha, hR, hz, q⟩ => ?_⟩
  subst ey
  cases r1
  refine iter_own S F ⟨hr, rfl⟩ hb hx I1 ha hR hz fun it s' I' k o _ => ⟨it, [it], _, _, H1, rfl, I', turn_list l it, ⟨_, o, rfl, rfl⟩, fun b hb => ?_, q⟩
  rw [List.mem_singleton.mp hb]
  exact k
end
end WX
namespace WX
open PySem PySem.Spec PyProof.Rows L2
/-! ### for i, c in enumerate(text) -/
def IteS (x : Str) : It := ⟨fun i _ => i < x.cps.size, fun i H v H' => ∃ T c, v = .ref T ∧ H T = none ∧ H' = L2.upd H T (.tup [.int (i : Nat), .str ⟨#[c]⟩]) ∧ x.cps[i]? = some c, fun i _ => i = x.cps.size⟩
theorem turn_enumS {P : Program} {w : World} {K : PySem.W.Frag} {elts : List Expr} {kk : Nat} {tp : Pos} (e it : Addr) (x : Str) (t : Tok) :
    Turn P w K (.Tuple elts kk tp) (IteS x) [e, it] e (fun i h => (∃ old, IsEnum h e it ((i : Nat) : Int) old) ∧ h.IsStrIter it (strIterType x) x t i ∧ e ≠ it) where
  mem := List.mem_cons_self
  obj := fun i h st b hb => by
    obtain ⟨⟨old, he⟩, ⟨o, ho, hc, hd⟩, _⟩ := st
    rcases List.mem_cons.mp hb with z | z
    · rw [z]
      exact ⟨_, he, fun v q => (by cases q)⟩
    · rw [List.mem_singleton.mp z]
      exact ⟨o, ho, fun v q => (by rw [hd] at q; cases q)⟩
  keep := fun i h h' ⟨⟨old, he⟩, ⟨o, ho, r⟩, hne⟩ k => ⟨⟨old, k e List.mem_cons_self _ he⟩, ⟨o, k it (List.mem_cons_of_mem _ List.mem_cons_self) _ ho, r⟩, hne⟩
  item := by
    intro X hP hw hK hc i pins s σ H E I hf st hg
    subst hP hw hK
    obtain ⟨⟨old, he⟩, hit, hne⟩ := st
    have hh : X.A.in1.handled = none := I.ok.hd hc
    have hel : e < s.heap.objs.size := Heap.lt_size he
    have hil : it < s.heap.objs.size := (let ⟨_, q, _⟩ := hit; Heap.lt_size q)
    refine wpAny_pyNext_enum_itemD (Draws.text hh it x t) he hit hg hne (fun z => hne (List.mem_singleton.mp z)) fun y h' tk hy ho hit' hT hsz hk => ?_
    obtain ⟨c, u, hcx, rfl⟩ := hy
    refine ⟨_, rfl, wpAny_letOwnedTupleGo_enum (s := { s with heap := h', toks := tk + 1 }) ho fun h2 he2 sb => ?_⟩
    have hT2 : h2.get? s.heap.objs.size = some { cls := .type "tuple", data := .seq #[.int i tk, .str ⟨#[c]⟩ u] } := (sb.2 _ (Nat.ne_of_gt hel)).trans hT
    have new : ObjOk X.prog X.w (L2.upd H s.heap.objs.size (.tup [.int (i : Nat), .str ⟨#[c]⟩])) h2 s.heap.objs.size (.tup [.int (i : Nat), .str ⟨#[c]⟩]) :=
      ⟨by show 2 ≤ sizeLine; decide, [.int i tk, .str ⟨#[c]⟩ u], .cons ⟨_, rfl⟩ (.cons ⟨_, rfl⟩ .nil), ⟨_, hT2, rfl, _, rfl⟩⟩
    have I1 : Inv X pins σ (L2.upd H s.heap.objs.size (.tup [.int (i : Nat), .str ⟨#[c]⟩])) { s with heap := h2, toks := tk + 1 } :=
      I.turnedNew (ch := [e, it]) (fun b ob hb q => (sb.2 b fun z => hb (by simp [z])).trans (hk b ob (fun z => hb (by simp [z])) (fun z => hb (by simp [z])) q)) hf (Nat.le_refl _) new
    refine ⟨.ref s.heap.objs.size, _, I1, rfl, ⟨_, c, rfl, I.hok.fresh (Nat.le_refl _), rfl, hcx⟩, ⟨⟨.str ⟨#[c]⟩ u, ?_⟩, ?_, hne⟩, fun b hb => ?_⟩
    · rw [show ((i + 1 : Nat) : Int) = (i : Int) + 1 by omega]
      exact he2
    · obtain ⟨o, q, r⟩ := hit'
      exact ⟨o, (sb.2 it (Ne.symm hne)).trans q, r⟩
    · have hb' : b < s.heap.objs.size := by
        rcases List.mem_cons.mp hb with z | z
        · rw [z]; exact hel
        · rw [List.mem_singleton.mp z]; exact hil
      rw [upd_ne (Nat.ne_of_lt hb')]
      exact (hf b hb).1
  done := by
    intro X hP hw hK hc i pins s σ H E I hf st hg
    subst hP hw hK
    obtain ⟨⟨old, he⟩, hit, hne⟩ := st
    have hh : X.A.in1.handled = none := I.ok.hd hc
    have hg : i = x.cps.size := hg
    subst hg
    exact wpAny_pyNext_enum_endD (Draws.text hh it x t) he hit fun h' eb => ⟨rfl, I.turnedL (t' := s.toks) (ch := [e, it]) (fun b o hb q => eb b o (fun z => hb (by simp [z])) q) hf⟩
  self := fun A i s Q E st h => let ⟨⟨_, he⟩, _⟩ := st; wpAny_pyIter_enum he h
def iEnumS (ta : TA) : TI := fun σ H R => ta σ H fun vs H1 => ∃ x, vs = [.str x] ∧ R (IteS x) H1
theorem pi_enumS {X : Cx} {e : Expr} {ta : TA} {p pos tpos : Pos} {elts : List Expr} {kk : Nat} (hg : Gl X "enumerate") (hm : X.mg "enumerate" = none) (ha : PA X [e] ta) (hs : starEach [e] X.env = [(false, eval e X.env)] := by rfl) :
    PI X (.Tuple elts kk tpos) (.Call (.Name "enumerate" p) [e] [] pos) (iEnumS ta) := by
  refine ⟨fun pins s σ H R I h => ?_⟩
  refine Call_ (ld_blt I hg hm boot_enumerate (PyProof.Rows.callWith_type1 (thn (ha.run pos pins s σ H _ I h) fun us s1 ⟨vs, H1, I1, r1, x, ex, q⟩ => ?_) hs rfl))
  subst ex
  obtain ⟨u, rfl, ru⟩ := vals1 r1
  obtain ⟨t, rfl⟩ := ru
  refine call_enumerate_str fun h' he hit hsz hk => wpAny_pyIter_enum he ?_
  have I2 : Inv X pins σ H1 { s1 with heap := h' } := I1.kept (t' := s1.toks) hk
  refine ⟨s1.heap.objs.size + 1, [s1.heap.objs.size + 1, s1.heap.objs.size], _, _, H1, rfl, I2, turn_enumS (s1.heap.objs.size + 1) s1.heap.objs.size x t, ⟨⟨.none, he⟩, hit, Nat.succ_ne_self _⟩, fun b hb => ?_, q⟩
  have hle : s1.heap.objs.size ≤ b := by
    rcases List.mem_cons.mp hb with z | z
    · rw [z]; exact Nat.le_succ _
    · rw [List.mem_singleton.mp z]; exact Nat.le_refl _
  exact I1.fpOk hle (I1.hok.fresh hle)
end WX
namespace WX
open PySem PySem.Spec PyProof.Rows L2
/-- the cells of a zip over an iterator that has come and a text -/
abbrev zp1 (h : Heap) (x : Str) (t : Tok) : Heap := h.push { cls := .type (strIterType x), data := .fields #[.str x t, .int 0 0] }
abbrev zp2 (h : Heap) (i1 : Addr) (x : Str) (t : Tok) : Heap := (zp1 h x t).push { cls := .type "tuple", data := .seq #[.ref i1, .ref h.objs.size] }
abbrev zp3 (h : Heap) (i1 : Addr) (x : Str) (t : Tok) : Heap := (zp2 h i1 x t).push { cls := .type "tuple", data := .seq #[.none, .none] }
abbrev zp4 (h : Heap) (i1 : Addr) (x : Str) (t : Tok) : Heap := (zp3 h i1 x t).push { cls := .type "zip", data := .fields #[.none, .bool false, .bool false, .ref (zp1 h x t).objs.size, .ref (zp2 h i1 x t).objs.size] }
theorem zip_in {prog : Program} {w : World} (v : Value) (x : Str) (t : Tok) :
    MeetsIn prog w (Builtin.«zip.__new__» ⟨[.type "zip", v, .str x t], []⟩) (fun A R s => wpAny (model prog w) A.in1 (pyIter v) (fun it s1 => ∃ i1, it = .ref i1 ∧
      R (.ok (.ret (.ref (zp3 s1.heap i1 x t).objs.size))) { s1 with heap := zp4 s1.heap i1 x t }) (fun e s' => R (.error e) s') s) :=
  .of_wp fun A R s h => by
    obtain ⟨hp, g, d, tk, os⟩ := s
    have hsub := sub_zip
    have q1 : ∀ {Q : Value → Shared → Prop}, (∀ i1 s1, R (.ok (.ret (.ref (zp3 s1.heap i1 x t).objs.size))) { s1 with heap := zp4 s1.heap i1 x t } → Q (.ref i1) s1) → wpAny (model prog w) A.in1 (pyIter v) Q (fun e s' => R (.error e) s') ⟨hp, g, d, tk, os⟩ :=
      fun k => wpAny_mono h (fun it s1 ⟨i1, e, q⟩ => e ▸ k i1 s1 q) fun _ _ z => z
    wp_walk using q1
    rintro i1 ⟨hp, g, d, tk, os⟩ h2
    have q2 : ∀ {A' : Around} {E : Value → Shared → Prop} {Q : Value → Shared → Prop}, Q (.ref hp.objs.size) ⟨zp1 hp x t, g, d, tk, os⟩ → wpAny (model prog w) A' (pyIter (.str x t)) Q E ⟨hp, g, d, tk, os⟩ :=
      fun q => (begins_text x t).iter prog w _ _ ⟨hp, g, d, tk, os⟩ _ trivial q
    wp_walk using q2
    exact ⟨_, rfl, h2⟩
def ItzO (K : PySem.W.Frag) (l : Addr) (x : Str) : It :=
  ⟨fun i H => ∃ xs v, SqL K H l xs ∧ xs[i]? = some v ∧ i < x.cps.size, fun i H v H' => ∃ T a c, v = .ref T ∧ H T = none ∧ H' = L2.upd H T (.tup [a, .str ⟨#[c]⟩]) ∧ (∀ xs, SqL K H l xs → xs[i]? = some a) ∧ x.cps[i]? = some c, fun i H => ∃ xs : List V, SqL K H l xs ∧ xs.length = i ∧ x.cps.size = i⟩
theorem turn_zipO {P : Program} {w : World} {K : PySem.W.Frag} {elts : List Expr} {kk : Nat} {tp : Pos} {z TI TO i1 i2 l : Addr} (S : ZipSep2 z TI TO i1 i2 [i1, l] [i2]) (hl : l ≠ i1) (x : Str) (t : Tok) :
    Turn P w K (.Tuple elts kk tp) (ItzO K l x) [z, TI, TO, i1, i2] z (fun i h => IsZip h z TI TO .none ∧ IsTupOf2 h TI (.ref i1) (.ref i2) ∧ (∃ a b, IsTupOf2 h TO a b) ∧ h.IsListIter i1 l i ∧ h.IsStrIter i2 (strIterType x) x t i) where
  mem := List.mem_cons_self
  obj := fun i h st c hc => by
    obtain ⟨hz, hTI, ⟨a, b, hTO⟩, ⟨o1, e1, _, d1⟩, ⟨o2, e2, _, d2⟩⟩ := st
    have e' : c = z ∨ c = TI ∨ c = TO ∨ c = i1 ∨ c = i2 := by simpa using hc
    rcases e' with q | q | q | q | q <;> rw [q]
    · exact ⟨_, hz, fun v q => (by cases q)⟩
    · exact ⟨_, hTI, fun v q => (by cases q)⟩
    · exact ⟨_, hTO, fun v q => (by cases q)⟩
    · exact ⟨o1, e1, fun v q => (by rw [d1] at q; cases q)⟩
    · exact ⟨o2, e2, fun v q => (by rw [d2] at q; cases q)⟩
  keep := fun i h h' st k => by
    obtain ⟨hz, hTI, ⟨a, b, hTO⟩, ⟨o1, e1, r1⟩, ⟨o2, e2, r2⟩⟩ := st
    exact ⟨k z (by simp) _ hz, k TI (by simp) _ hTI, ⟨a, b, k TO (by simp) _ hTO⟩, ⟨o1, k i1 (by simp) _ e1, r1⟩, ⟨o2, k i2 (by simp) _ e2, r2⟩⟩
  item := by
    intro X hP hw hK hc i pins s σ H E I hf st hg
    subst hP hw hK
    obtain ⟨hz, hTI, ⟨a, b, hTO⟩, h1, h2⟩ := st
    obtain ⟨xs, v, hq, hx, hlt⟩ := hg
    obtain ⟨its, rv, p, _⟩ := I.list hq
    obtain ⟨u, hu, ru⟩ := rv.get hx
    have hu' : its.toArray[i]? = some u := by rw [List.getElem?_toArray]; exact hu
    have hh : X.A.in1.handled = none := I.ok.hd hc
    have hzl : z < s.heap.objs.size := Heap.lt_size hz
    have l1 : i1 < s.heap.objs.size := (let ⟨_, q, _⟩ := h1; Heap.lt_size q)
    have l2 : i2 < s.heap.objs.size := (let ⟨_, q, _⟩ := h2; Heap.lt_size q)
    have hlt1 : i < its.toArray.size := (Array.getElem?_eq_some_iff.mp hu').1
    refine wpAny_pyNext_zipD2_item S (Draws.list hh i1 l hl its.toArray) (Draws.text hh i2 x t) hz hTI hTO ⟨h1, p.isList⟩ h2 hlt1 hlt fun x1 x2 h' tk y1 y2 b1 b2 d1 d2 b5 b6 hk => ?_
    obtain ⟨c, t2, hcx, rfl⟩ := y2
    rw [hu'] at y1
    obtain rfl := Option.some.inj y1
    refine ⟨_, rfl, wpAny_letOwnedTupleGo_zip (s := { s with heap := h', toks := tk }) b1 fun g hz2 sb => ?_⟩
    have hT2 : g.get? s.heap.objs.size = some { cls := .type "tuple", data := .seq #[u, .str ⟨#[c]⟩ t2] } := (sb.2 _ (Nat.ne_of_gt hzl)).trans b5
    have new : ObjOk X.prog X.w (L2.upd H s.heap.objs.size (.tup [v, .str ⟨#[c]⟩])) g s.heap.objs.size (.tup [v, .str ⟨#[c]⟩]) :=
      ⟨by show 2 ≤ sizeLine; decide, [u, .str ⟨#[c]⟩ t2], .cons ru (.cons ⟨_, rfl⟩ .nil), ⟨_, hT2, rfl, _, rfl⟩⟩
    have I1 : Inv X pins σ (L2.upd H s.heap.objs.size (.tup [v, .str ⟨#[c]⟩])) { s with heap := g, toks := tk } :=
      I.turnedNew (ch := [z, TI, TO, i1, i2]) (fun c o hb q => (sb.2 c fun q' => hb (by simp [q'])).trans (hk c o (fun q' => hb (by simp [q'])) (fun q' => hb (by simp [q'])) (fun q' => hb (by simp [q'])) (fun q' => hb (by simp [q'])) q)) hf (Nat.le_refl _) new
    refine ⟨.ref s.heap.objs.size, _, I1, rfl, ⟨_, v, c, rfl, I.hok.fresh (Nat.le_refl _), rfl, fun ys hy => by rw [I.list_inj hy hq]; exact hx, hcx⟩, ⟨hz2, ?_, ⟨u, .str ⟨#[c]⟩ t2, ?_⟩, ?_, ?_⟩, fun c hcm => ?_⟩
    · exact (sb.2 _ S.TIz).trans (hk _ _ S.TIz S.TITO S.TIi1 S.TIi2 hTI)
    · exact (sb.2 _ S.TOz).trans b2
    · obtain ⟨⟨o, e, r⟩, _⟩ := d1
      exact ⟨o, (sb.2 _ S.zi1.symm).trans e, r⟩
    · obtain ⟨o, e, r⟩ := d2
      exact ⟨o, (sb.2 _ S.zi2.symm).trans e, r⟩
    · have hlt : c < s.heap.objs.size := by
        have e' : c = z ∨ c = TI ∨ c = TO ∨ c = i1 ∨ c = i2 := by simpa using hcm
        rcases e' with q | q | q | q | q <;> rw [q]
        · exact hzl
        · exact Heap.lt_size hTI
        · exact Heap.lt_size hTO
        · exact l1
        · exact l2
      rw [upd_ne (Nat.ne_of_lt hlt)]
      exact (hf c hcm).1
  done := by
    intro X hP hw hK hc i pins s σ H E I hf st hg
    subst hP hw hK
    obtain ⟨hz, hTI, ⟨a, b, hTO⟩, h1, h2⟩ := st
    obtain ⟨xs, hq, e1, e2⟩ := hg
    obtain ⟨its, rv, p, _⟩ := I.list hq
    have hh : X.A.in1.handled = none := I.ok.hd hc
    have hn : its.toArray.size = i := by rw [List.size_toArray, ← rv.length, e1]
    exact wpAny_pyNext_zipD2_end S (Draws.list hh i1 l hl its.toArray) (Draws.text hh i2 x t) hz hTI hTO ⟨h1, p.isList⟩ h2 (Nat.le_of_eq hn.symm) (Nat.le_of_eq e2.symm) (.inl hn.symm) fun h' tk hk => ⟨rfl, I.turnedL (t' := tk) (ch := [z, TI, TO, i1, i2]) (fun c o hb q =>
      hk c o (fun q' => hb (by simp [q'])) (fun q' => hb (by simp [q'])) (fun q' => hb (by simp [q'])) (fun q' => hb (by simp [q'])) q) hf⟩
  self := fun A i s Q E st h => wpAny_pyIter_zip st.1 h
theorem zsep (N i1 l : Nat) (h1 : i1 < N) (h2 : l < N) (h3 : l ≠ i1) : ZipSep2 (N + 3) (N + 1) (N + 2) i1 N [i1, l] [N] := by
  have two : ∀ x y z : Nat, x ≠ y → x ≠ z → (show Addr from x) ∉ ([y, z] : List Addr) := fun x y z a b h => by
    have h : x = y ∨ x = z := by simpa using h
    omega
  have one : ∀ x y : Nat, x ≠ y → (show Addr from x) ∉ ([y] : List Addr) := fun x y a h => a (List.mem_singleton.mp h)
  exact
  { TIz := show (N + 1 : Nat) ≠ N + 3 by omega, TOz := show (N + 2 : Nat) ≠ N + 3 by omega, TITO := show (N + 1 : Nat) ≠ N + 2 by omega, TIi1 := show (N + 1 : Nat) ≠ i1 by omega, mem1 := List.mem_cons_self
    zf1 := two (N + 3) i1 l (by omega) (by omega), Tf1 := two (N + 2) i1 l (by omega) (by omega), TIi2 := show (N + 1 : Nat) ≠ N by omega, mem2 := List.mem_cons_self
    zf2 := one (N + 3) N (by omega), Tf2 := one (N + 2) N (by omega), sep1_2 := one i1 N (by omega), sep2_1 := two N i1 l (by omega) (by omega) }
/-- for a, c in zip(o, text) -/
def iZipO (C : Addr) (K : PySem.W.Frag) (R : Addr → Addr → Hp → Prop) (ta : TA) : TI := fun σ H S => ta σ H fun vs H1 => ∃ a dx fs l zs x, vs = [.ref a, .str x] ∧ H1 a = some (.ins C dx fs) ∧ R a l H1 ∧ SqL K H1 l zs ∧ (∃ o, H1 l = some o) ∧ S (ItzO K l x) H1
theorem pi_zipO {X : Cx} {CX : CXT} {n : Nat} {C f : Addr} {fd : FuncData} {ps : List Str} {E : XK} {R : Addr → Addr → Hp → Prop} {e e2 : Expr} {ta : TA} {p pos tpos : Pos} {elts : List Expr} {kk : Nat} (S : Sm X.K C "__iter__" f) (F : FnOkS X.prog X.w X.K X.mg X.base CX n f fd ps (spIter X.K R)) (hr : Room (n + 3) X.A) (hb : Binds X.K fd ps []) (hx : Passes CX X E)
    (hg : Gl X "zip") (hm : X.mg "zip" = none) (ha : PA X [e, e2] ta)
    (hs : starEach [e, e2] X.env = (false, eval e X.env) :: starEach [e2] X.env := by rfl) (hpl : (backTo pos (starEach [e2] X.env)).any (·.1) = false := by rfl) :
    PI X (.Tuple elts kk tpos) (.Call (.Name "zip" p) [e, e2] [] pos) (iZipO C X.K R ta) := by
  refine ⟨fun pins s σ H Q I h => ?_⟩
  refine Call_ (ld_blt I hg hm PyProof.Rows.boot_zip (PyProof.Rows.callWith_type1 (thn (ha.run pos pins s σ H _ I h) fun us s1 ⟨vs, H1, I1, r1, a, dx, fs, l, zs, x, ex, ea, hR, hz, ⟨ol, hol⟩, q⟩ => ?_) hs hpl))
  subst ex
  obtain ⟨u1, u2, rfl, ru1, ru2⟩ := vals2 r1
  cases ru1
  obtain ⟨t, rfl⟩ := ru2
  have sb : Sub X n X.A.in1.in1 := (Sub.in1 (Sub.in1 (⟨hr.mono (by omega), rfl⟩ : Sub X (n + 2) X.A)))
  refine callType_newIn PySem.F.called_zip (by decide) (PySem.F.typeCall_zip_2 _ _) (PySem.F.newCall_zip_2 _ _) (fun obj => PySem.F.args_object_init_3 obj _ _) PySem.F.entry_zip_new (zip_in (.ref a) x t) ?_
  refine wpAny_mono (iter_own S F sb hb hx I1 ea hR hz fun i1 s2 I2 k o hn => ?_) (fun _ _ z => z) fun _ _ z => ?_
  · have hl : l ≠ i1 := fun z => by rw [z, hn] at hol; cases hol
    have l1 : i1 < s2.heap.objs.size := Heap.lt_size o
    have ll : l < s2.heap.objs.size := (I2.hok l _ hol).lt
    have z1 : (zp1 s2.heap x t).objs.size = s2.heap.objs.size + 1 := Heap.size_push ..
    have z2 : (zp2 s2.heap i1 x t).objs.size = s2.heap.objs.size + 2 := by rw [Heap.size_push, z1]
    have z3 : (zp3 s2.heap i1 x t).objs.size = s2.heap.objs.size + 3 := by rw [Heap.size_push, z2]
    have kp : ∀ b u, s2.heap.get? b = some u → (zp4 s2.heap i1 x t).get? b = some u := fun b u q => Heap.get?_push_of_some _ (Heap.get?_push_of_some _ (Heap.get?_push_of_some _ (Heap.get?_push_of_some _ q)))
    have gz : IsZip (zp4 s2.heap i1 x t) (s2.heap.objs.size + 3) (s2.heap.objs.size + 1) (s2.heap.objs.size + 2) .none := by
      have g := Heap.get?_push_size (zp3 s2.heap i1 x t) (o := { cls := .type "zip", data := .fields #[.none, .bool false, .bool false, .ref (zp1 s2.heap x t).objs.size, .ref (zp2 s2.heap i1 x t).objs.size] }) rfl
      rw [z3] at g
      rw [show (zp4 s2.heap i1 x t) = (zp3 s2.heap i1 x t).push { cls := .type "zip", data := .fields #[.none, .bool false, .bool false, .ref (zp1 s2.heap x t).objs.size, .ref (zp2 s2.heap i1 x t).objs.size] } from rfl]
      unfold IsZip
      rw [g, z1, z2]
    have gO : IsTupOf2 (zp4 s2.heap i1 x t) (s2.heap.objs.size + 2) .none .none := by
      have g := Heap.get?_push_size (zp2 s2.heap i1 x t) (o := { cls := .type "tuple", data := .seq #[.none, .none] }) rfl
      rw [z2] at g
      exact Heap.get?_push_of_some _ g
    have gT : IsTupOf2 (zp4 s2.heap i1 x t) (s2.heap.objs.size + 1) (.ref i1) (.ref s2.heap.objs.size) := by
      have g := Heap.get?_push_size (zp1 s2.heap x t) (o := { cls := .type "tuple", data := .seq #[.ref i1, .ref s2.heap.objs.size] }) rfl
      rw [z1] at g
      exact Heap.get?_push_of_some _ (Heap.get?_push_of_some _ g)
    have g2 : (zp4 s2.heap i1 x t).IsStrIter s2.heap.objs.size (strIterType x) x t 0 :=
      ⟨_, Heap.get?_push_of_some _ (Heap.get?_push_of_some _ (Heap.get?_push_of_some _ (Heap.get?_push_size _ rfl))), rfl, rfl⟩
    have I3 : Inv X pins σ H1 { s2 with heap := zp4 s2.heap i1 x t } := I2.kept (t' := s2.toks) kp
    refine ⟨i1, rfl, ?_⟩
    rw [z3]
    refine ⟨⟨_, gz, rfl⟩, wpAny_pyIter_zip gz ?_⟩
    have sep := zsep s2.heap.objs.size i1 l l1 ll hl
    refine ⟨_, [s2.heap.objs.size + 3, s2.heap.objs.size + 1, s2.heap.objs.size + 2, i1, s2.heap.objs.size], _, _, H1, rfl, I3, turn_zipO sep hl x t, ⟨gz, gT, ⟨_, _, gO⟩, ⟨_, kp _ _ o, rfl, rfl⟩, g2⟩, fun b hb => ?_, q⟩
    have e' : b = i1 ∨ s2.heap.objs.size ≤ b := by
      have : b = s2.heap.objs.size + 3 ∨ b = s2.heap.objs.size + 1 ∨ b = s2.heap.objs.size + 2 ∨ b = i1 ∨ b = s2.heap.objs.size := by simpa using hb
      rcases this with z | z | z | z | z
      · exact .inr (by rw [z]; exact Nat.le_add_right _ _)
      · exact .inr (by rw [z]; exact Nat.le_add_right _ _)
      · exact .inr (by rw [z]; exact Nat.le_add_right _ _)
      · exact .inl z
      · exact .inr (Nat.le_of_eq z.symm)
    rcases e' with z | z
    · rw [z]; exact k
    · exact I2.fpOk z (I2.hok.fresh z)
  · exact z
end WX
namespace WX
open PySem PySem.Spec PyProof.Rows L2
/-! ### sets whose members are tuples of numbers and texts -/
abbrev kh (P : Program) (w : World) (k : List Key) : Int := tupleKeyHash (mixKind P w) k
abbrev IsK (P : Program) (w : World) (h : Heap) (k : List Key) (a : Addr) : Prop := IsTupleKey (mixKind P w) h k a
section
variable {P : Program} {w : World} {A : Around} {E : Value → Shared → Prop} {s : Shared}
/-- numbers and texts -/
def Plain (v : Value) : Prop := (∃ i t, v = Value.int i t) ∨ ∃ x t, v = Value.str x t
theorem plain_items {k : List Key} {vs : List Value} (h : ItemsAre (mixKind P w) k vs) : ∀ v ∈ vs, Plain v := by
  induction h with
  | nil => exact fun v hv => nomatch hv
  | @cons k0 v0 ks vs h1 _ ih =>
    refine fun v hv => (List.mem_cons.mp hv).elim (fun e => ?_) (ih v)
    rcases keyIs_shape h1 with ⟨i, t, _, e2⟩ | ⟨x, t, _, e2⟩
    · exact .inl ⟨i, t, e.trans e2⟩
    · exact .inr ⟨x, t, e.trans e2⟩
theorem Plain.cls {v : Value} (h : Plain v) (n : Nat) : ofAClassStatement n v = pure false := by
  rcases h with ⟨_, _, rfl⟩ | ⟨_, _, rfl⟩ <;> cases n <;> rfl
theorem Plain.hash {v : Value} (h : Plain v) (n : Nat) : ∃ b, hashByValue n v = pure b := by
  rcases h with ⟨_, _, rfl⟩ | ⟨_, _, rfl⟩
  · exact ⟨true, by cases n <;> rfl⟩
  · exact ⟨false, by cases n <;> rfl⟩
theorem cls_tup {k : List Key} {b : Addr} {Q : Bool → Shared → Prop} (hk : IsK P w s.heap k b) (h : Q false s) : wpAny (model P w) A (ofAClassStatement 8 (.ref b)) Q E s := by
  have hT := hk.typeIs
  obtain ⟨o, items, n, ho, _, hd, hi⟩ := hk
  unfold ofAClassStatement
  refine wpAny_bind (wpAny_typeOf hT ?_)
  dsimp only
  simp only [show (("tuple" : String) == "tuple") = true by decide, if_true, Bool.not_true, Bool.false_eq_true, if_false]
  try refine wpAny_bind (wpAny_pure ?_)
  show wpAny _ _ (seqItems? (.ref b) >>= _) _ _ s
  refine wpAny_bind (wpAny_seqItems ho hd ?_)
  dsimp only
  refine wpAny_bind ?_
  show wpAny _ _ (forIn items _ _) _ _ s
  rw [← Array.forIn_toList]
  refine wpAny_forIn_list _ (fun rest r s' => r.1 = none ∧ s' = s ∧ ∀ v ∈ rest, Plain v) _ (fun v rest r s' ⟨hr, es, hall⟩ => ?_) (fun r s' ⟨hr, es, _⟩ => ?_) _ _ ⟨rfl, rfl, plain_items hi⟩
  · rw [(hall v List.mem_cons_self).cls]
    refine wpAny_bind (wpAny_pure ?_)
    simp only [Bool.false_eq_true, if_false]
    exact wpAny_pure ⟨rfl, es, fun u hu => hall u (List.mem_cons_of_mem _ hu)⟩
  · obtain ⟨r1, r2⟩ := r
    simp only at hr
    subst hr es
    exact wpAny_pure h
theorem hash_tup {k : List Key} {b : Addr} {Q : Bool → Shared → Prop} (hk : IsK P w s.heap k b) (h : ∀ r, Q r s) : wpAny (model P w) A (hashByValue 8 (.ref b)) Q E s := by
  have hT := hk.typeIs
  obtain ⟨o, items, n, ho, _, hd, hi⟩ := hk
  unfold hashByValue
  refine wpAny_bind (wpAny_specialOf hT F.slot_tuple_hash.lookup ?_)
  show wpAny _ _ (seqItems? (.ref b) >>= _) _ _ s
  refine wpAny_bind (wpAny_seqItems ho hd (wpAny_bind ?_))
  show wpAny _ _ (forIn items _ _) _ _ s
  rw [← Array.forIn_toList]
  refine wpAny_forIn_list _ (fun rest r s' => (r.1 = none ∨ r.1 = some false) ∧ s' = s ∧ ∀ v ∈ rest, Plain v) _ (fun v rest r s' ⟨hr, es, hall⟩ => ?_) (fun r s' ⟨hr, es, _⟩ => ?_) _ _ ⟨.inl rfl, rfl, plain_items hi⟩
  · obtain ⟨c, hc⟩ := (hall v List.mem_cons_self).hash 7
    rw [hc]
    refine wpAny_bind (wpAny_pure ?_)
    cases c with
    | true =>
      simp only [Bool.not_true, Bool.false_eq_true, if_false]
      exact wpAny_pure ⟨.inl rfl, es, fun u hu => hall u (List.mem_cons_of_mem _ hu)⟩
    | false =>
      simp only [Bool.not_false, if_true]
      subst es
      exact wpAny_pure (wpAny_pure (h _))
  · obtain ⟨r1, r2⟩ := r
    simp only at hr
    subst es
    rcases hr with rfl | rfl
    · exact wpAny_pure (h _)
    · exact wpAny_pure (h _)
/-- nothing is seen of a search among tuples -/
theorem quiet_tup {k : List Key} {b : Addr} {Q : Bool → Shared → Prop} (hk : IsK P w s.heap k b) {ys : List Value} (hy : ∀ y ∈ ys, ∃ k' c, y = Value.ref c ∧ IsK P w s.heap k' c) (h : Q false s) :
    wpAny (model P w) A (searchCouldBeSeen (.ref b) ys) Q E s := by
  unfold searchCouldBeSeen
  refine wpAny_bind (wpAny_forIn_list _ (fun rest r s' => r.1 = none ∧ s' = s ∧ ∀ y ∈ rest, ∃ k' c, y = Value.ref c ∧ IsK P w s.heap k' c) _ (fun v rest r s' ⟨hr, es, hall⟩ => ?_) (fun r s' ⟨hr, es, _⟩ => ?_) _ _ ⟨rfl, rfl, hy⟩)
  · subst es
    obtain ⟨k', c, rfl, hc⟩ := hall v List.mem_cons_self
    have more : ∀ y ∈ rest, ∃ k' c, y = Value.ref c ∧ IsK P w s'.heap k' c := fun u hu => hall u (List.mem_cons_of_mem _ hu)
    dsimp only
    by_cases hv : (b == c || (carriedByValue (.ref b) && carriedByValue (.ref c))) = true
    · exact wp_if_pos hv (wpAny_pure ⟨rfl, rfl, more⟩)
    · refine wp_if_neg hv (wpAny_bind (wpAny_eqIsQuiet_tuple hk ?_))
      simp only [Bool.not_true, Bool.false_eq_true, if_false]
      refine wpAny_bind (wpAny_eqIsQuiet_tuple hc ?_)
      simp only [Bool.not_true, Bool.false_eq_true, if_false]
      refine wpAny_bind (cls_tup hk ?_)
      simp only [Bool.false_eq_true, if_false]
      refine wpAny_bind (cls_tup hc ?_)
      simp only [Bool.false_eq_true, if_false]
      exact wpAny_pure ⟨rfl, rfl, more⟩
  · obtain ⟨r1, r2⟩ := r
    simp only at hr
    subst hr es
    exact wpAny_pure h
end
/-! ### the table of such a set -/
def rowsK (P : Program) (w : World) (L : List (Addr × List Key)) : List (Int × Value) := L.map fun p => (kh P w p.2, Value.ref p.1)
structure TabK (P : Program) (w : World) (h : Heap) (a : Addr) (L : List (Addr × List Key)) (es : Array (Int × Value)) (ep : Nat) (t : SetTable) : Prop where
  ob : ∃ o, h.get? a = some o ∧ o.ExactSet ∧ o.data = .set es ep t
  rows : es.toList = rowsK P w L
  tab : TabOk t (L.map fun p => kh P w p.2)
  tup : ∀ p ∈ L, IsK P w h p.2 p.1
  room : L.length * 5 < t.mask * 3
  few : L.length < 64
section
variable {P : Program} {w : World} {A : Around} {E : Value → Shared → Prop} {s : Shared} {a : Addr} {L : List (Addr × List Key)} {es : Array (Int × Value)} {ep : Nat} {t : SetTable}
theorem rowsK_size (h : es.toList = rowsK P w L) : es.size = L.length := by
  rw [← Array.length_toList, h]
  exact List.length_map _
theorem rowsK_get (hr : es.toList = rowsK P w L) {i : Nat} {p : Addr × List Key} (h : L[i]? = some p) : es[i]? = some (kh P w p.2, Value.ref p.1) := by
  rw [← Array.getElem?_toList, hr, rowsK, List.getElem?_map, h]
  rfl
theorem fits_of {n : Nat} (h1 : t.place.size = n) (h2 : t.dummies = #[]) (h3 : n ≤ t.mask) : t.fits n = true := by
  unfold SetTable.fits SetTable.fill
  rw [h2, Bool.and_eq_true, beq_iff_eq, decide_eq_true_eq]
  exact ⟨h1, by show t.place.size + 0 ≤ t.mask; omega⟩
theorem TabK.psz (R : TabK P w s.heap a L es ep t) : t.place.size = L.length := by
  rw [R.tab.sz, List.length_map]
theorem TabK.fits (R : TabK P w s.heap a L es ep t) : t.fits es.size = true := by
  have h1 := R.psz
  have h2 := rowsK_size R.rows
  have h3 := R.room
  exact fits_of (by omega) R.tab.dm (by omega)
theorem TabK.gw (R : TabK P w s.heap a L es ep t) : ¬ t.gaveWay = true := by
  unfold SetTable.gaveWay
  rw [mask_odd R.tab.mok]
  decide
/-- looked for among others -/
theorem free_from (R : TabK P w s.heap a L es ep t) {x : Addr} {k : List Key} (hx : IsK P w s.heap k x) (hu : A.units < cLine) (hn : k ∉ L.map (·.2)) {K : Nat} (hKf : K < 10 * SetTable.turns t.mask)
    (hK : way t.mask (kh P w k) K ∉ t.place.toList) (hKb : ∀ c, c < K → way t.mask (kh P w k) c ∈ t.place.toList) (adding : Bool) {Q : SetFound → Shared → Prop} (hQ : Q (.free (way t.mask (kh P w k) K) false) s) :
    ∀ (f c : Nat) (st : Option SetTable.Probe), st.getD (t.probeStart (kh P w k)) = nth t.mask (runAt t.mask (SetTable.bits (kh P w k) % (t.mask + 1)) (SetTable.bits (kh P w k))) c → c ≤ K → K - c < f → wpAny (model P w) A (setSearchFrom a (.ref x) (kh P w k) adding f st) Q E s := by
  intro f
  induction f with
  | zero => exact fun c st _ _ hf => absurd hf (Nat.not_lt_zero _)
  | succ f ih =>
    intro c st hst hc hf
    obtain ⟨o, ho, hex, hd⟩ := R.ob
    rw [setSearchFrom_succ]
    refine wpAny_bind (wpAny_setState_of ho hd R.fits ?_)
    dsimp only
    refine wp_if_neg R.gw ?_
    try refine wpAny_bind (wpAny_pure ?_)
    generalize hp0 : runAt t.mask (SetTable.bits (kh P w k) % (t.mask + 1)) (SetTable.bits (kh P w k)) = p0 at hst
    have hw : ∀ q, way t.mask (kh P w k) q = (nth t.mask p0 q).j := fun q => by rw [← hp0]
    have sh : ∀ q, nth t.mask (nth t.mask p0 c) q = nth t.mask p0 (c + q) := fun q => (nth_add t.mask c _ q).symm
    have hnd : (nth t.mask p0 c).dummy = none := by
      have key : ∀ (n : Nat) (p : SetTable.Probe), p.dummy = none → (nth t.mask p n).dummy = none := by
        intro n
        induction n with
        | zero => exact fun p h => h
        | succ n ih => exact fun p h => ih (adv t.mask p) (by unfold adv; split <;> exact h)
      exact key c _ (by rw [← hp0]; rfl)
    have e1 : ∀ q, (nth t.mask (nth t.mask p0 c) q).j = way t.mask (kh P w k) (c + q) := fun q => by rw [sh, hw]
    have spec := go_spec t R.tab.ris R.tab.dm (fun i => (es[i]?.map (·.1)).getD 0) (kh P w k) (10 * SetTable.turns t.mask) (K - c) _ hnd (by omega) (fun q hq => by rw [e1]; exact hKb (c + q) (by omega)) (by rw [e1, show c + (K - c) = K by omega]; exact hK)
    rcases spec with ⟨q, i, hq, hi, hh, _, hpr⟩ | ⟨_, hpr⟩
    · rw [e1] at hi
      have pr : t.probe (fun i => (es[i]?.map (·.1)).getD 0) (kh P w k) (st.getD (t.probeStart (kh P w k))) = some (.candidate (way t.mask (kh P w k) (c + q)) i (nth t.mask p0 (c + (q + 1)))) := by
        rw [hst, ← e1, ← sh]
        exact hpr
      rw [pr]
      dsimp only
      have hil : i < L.length := by
        have h1 := (List.getElem?_eq_some_iff.mp hi).1
        rw [Array.length_toList, R.psz] at h1
        exact h1
      have hp : L[i]? = some L[i] := List.getElem?_eq_getElem hil
      generalize L[i] = p at hp
      have hm : p ∈ L := List.mem_of_getElem? hp
      have hpt := R.tup p hm
      have hne : ¬ p.2 = k := fun z => hn (List.mem_map.mpr ⟨p, hm, z⟩)
      have sl : t.slot (way t.mask (kh P w k) (c + q)) = .live i := slot_live R.tab.ris hi
      have rest : wpAny (model P w) A (searchRest a (.ref x) (kh P w k) adding f es t (way t.mask (kh P w k) (c + q)) i (nth t.mask p0 (c + (q + 1)))) Q E s := by
        unfold searchRest
        rw [rowsK_get R.rows hp]
        dsimp only
        refine wpAny_bind (wpAny_holding (wpAny_eqBool_tuple hu hpt hx (wpAny_bind (wpAny_setState_of ho hd R.fits ?_))))
        dsimp only
        refine wp_if_neg (by simp [hne]) ?_
        try refine wpAny_bind (wpAny_pure ?_)
        rw [sameMem]
        dsimp only
        simp only [if_true, sl, rowsK_get R.rows hp]
        refine wpAny_bind (wpAny_isSame_ref_self (wpAny_bind (wpAny_pure ?_)))
        simp only [if_true]
        refine wp_if_neg (by simp [hne]) ?_
        exact ih (c + (q + 1)) _ (by rw [← hp0]; rfl) (by omega) (by omega)
      by_cases hl : t.led = true
      · refine wp_if_neg (by simp [hl]) ?_
        try refine wpAny_bind (wpAny_pure ?_)
        exact rest
      · refine wp_if_pos (by simp [hl]) (wpAny_bind (quiet_tup hx (fun y hy => ?_) ?_))
        · obtain ⟨e, he, rfl⟩ := List.mem_map.mp hy
          have he : e ∈ es.toList := (by simpa using he : e ∈ es ∧ _).1 |> fun z => by simpa using z
          rw [R.rows] at he
          obtain ⟨p2, hp2, rfl⟩ := List.mem_map.mp he
          exact ⟨p2.2, p2.1, rfl, R.tup p2 hp2⟩
        · refine wp_if_neg (by decide) ?_
          try refine wpAny_bind (wpAny_pure ?_)
          exact rest
    · have pr : t.probe (fun i => (es[i]?.map (·.1)).getD 0) (kh P w k) (st.getD (t.probeStart (kh P w k))) = some (.empty (way t.mask (kh P w k) K) none) := by
        have e2 : way t.mask (kh P w k) K = (nth t.mask (nth t.mask p0 c) (K - c)).j := by rw [e1, show c + (K - c) = K by omega]
        rw [hst, e2]
        exact hpr
      rw [pr]
      dsimp only
      exact wpAny_pure hQ
theorem free_at (R : TabK P w s.heap a L es ep t) {x : Addr} {k : List Key} (hx : IsK P w s.heap k x) (hu : A.units < cLine) (hn : k ∉ L.map (·.2)) (adding : Bool) {Q : SetFound → Shared → Prop}
    (hQ : ∀ K, way t.mask (kh P w k) K ∉ t.place.toList → (∀ c, c < K → way t.mask (kh P w k) c ∈ t.place.toList) → Q (.free (way t.mask (kh P w k) K) false) s) : wpAny (model P w) A (setSearch a (.ref x) (kh P w k) adding) Q E s := by
  have hroom := R.room
  obtain ⟨K, hKf, hK, hKb⟩ := R.tab.first (by rw [List.length_map]; omega) (kh P w k)
  have hbig : K < 100000 := by
    have h : 10 * SetTable.turns t.mask ≤ 1420 := by
      unfold SetTable.turns
      rcases R.tab.mok with e | e | e <;> omega
    omega
  exact free_from R hx hu hn hKf hK hKb adding (hQ K hK hKb) 100000 0 none rfl (Nat.zero_le _) (by omega)
/-! ### laid anew, added -/
theorem isK_same {h h' : Heap} {k : List Key} {a b : Addr} {o : Obj} {es : Array (Int × Value)} {ep : Nat} {t : SetTable} (hb : IsK P w h k b) (ho : h.get? a = some o) (hd : o.data = .set es ep t) (hs : Heap.SameBut a h h') : IsK P w h' k b := by
  obtain ⟨o', items, n, ho', hc, hd', hi⟩ := hb
  refine ⟨o', items, n, (hs.2 b fun z => ?_).trans ho', hc, hd', hi⟩
  rw [z, ho] at ho'
  rw [Option.some.inj ho'] at hd
  rw [hd] at hd'
  cases hd'
theorem order_rowsK (L : List (Addr × List Key)) (es : Array (Int × Value)) (order : Array Nat) (hr : es.toList = rowsK P w L) (hp : order.toList.Perm (List.range L.length)) :
    ∃ L2, (order.filterMap (es[·]?)).toList = rowsK P w L2 ∧ L2.Perm L ∧ (L2.map fun p => kh P w p.2) = order.toList.map fun i => (es.map (·.1)).getD i 0 := by
  have key : ∀ l : List Nat, (∀ i ∈ l, i < L.length) → l.filterMap (fun i => es[i]?) = rowsK P w (l.filterMap fun i => L[i]?) ∧ ((l.filterMap fun i => L[i]?).map fun p => kh P w p.2) = l.map fun i => (es.map (·.1)).getD i 0 := by
    intro l
    induction l with
    | nil => exact fun _ => ⟨rfl, rfl⟩
    | cons i l ih =>
      intro hl
      have hi := hl i List.mem_cons_self
      obtain ⟨e1, e3⟩ := ih fun j hj => hl j (List.mem_cons_of_mem _ hj)
      have hL : L[i]? = some L[i] := List.getElem?_eq_getElem hi
      have hE := rowsK_get hr hL
      have e5 : (es.map (·.1))[i]? = some (kh P w (L[i]).2) := by rw [Array.getElem?_map, hE]; rfl
      refine ⟨?_, ?_⟩
      · rw [List.filterMap_cons_some hE, List.filterMap_cons_some hL, e1]
        rfl
      · rw [List.filterMap_cons_some hL, List.map_cons, List.map_cons, e3, Array.getD_eq_getD_getElem?, e5]
        rfl
  obtain ⟨e1, e3⟩ := key order.toList fun i hi => List.mem_range.mp (hp.mem_iff.mp hi)
  refine ⟨_, by first | (rw [Array.toList_filterMap]; exact e1) | simpa using e1, (hp.filterMap _).trans ?_, e3⟩
  have all : ∀ n, n ≤ L.length → (List.range n).filterMap (fun i => L[i]?) = L.take n := by
    intro n
    induction n with
    | zero => exact fun _ => rfl
    | succ n ih =>
      intro hn
      rw [List.range_succ, List.filterMap_append, ih (Nat.le_of_lt hn), List.take_succ, List.getElem?_eq_getElem hn, List.filterMap_cons_some (List.getElem?_eq_getElem hn)]
      rfl
  rw [all L.length (Nat.le_refl _), List.take_length]
theorem relay_K {o : Obj} (ho : s.heap.get? a = some o) (hex : o.ExactSet) (hd : o.data = .set es ep t) (hr : es.toList = rowsK P w L) (hsz : t.place.size = es.size) (hdm : t.dummies = #[]) (hfl : es.size ≤ t.mask)
    (tup : ∀ p ∈ L, IsK P w s.heap p.2 p.1) (few : L.length < 64) {wanted M : Nat} (hw : SetTable.sizeAbove wanted - 1 = M) (hM : MaskOk M) (hw2 : SetTable.sizeAbove wanted ≤ 128) (hn : L.length * 5 < M * 3) {Q : Unit → Shared → Prop}
    (hQ : ∀ h' L' es' ep' t', Heap.SameBut a s.heap h' → TabK P w h' a L' es' ep' t' → L'.Perm L → Q () { s with heap := h' }) : wpAny (model P w) A (setRelay a wanted) Q E s := by
  have hsl := rowsK_size hr
  obtain ⟨t', order, e, hp, T, em, _, _, _⟩ := relaid_ok t (hs := es.map (·.1)) (wanted := wanted) hw hM (by rw [Array.size_map, hsl]; omega)
  rw [Array.size_map, hsl] at hp
  obtain ⟨L2, r1, r2, r3⟩ := order_rowsK L es order hr hp
  rw [← r3] at T
  have hs2 : (order.filterMap (es[·]?)).size = es.size := by rw [rowsK_size r1, r2.length_eq, hsl]
  rw [setRelay_eq]
  refine wpAny_bind (wpAny_setState_of ho hd (fits_of hsz hdm hfl) ?_)
  dsimp only
  refine wp_if_neg (by rw [sizeLine_eq]; omega) ?_
  try refine wpAny_bind (wpAny_pure ?_)
  rw [e]
  dsimp only
  refine wpAny_bind (wp_if_neg (by rw [hs2]; simp) ?_)
  try refine wpAny_bind (wpAny_pure ?_)
  refine wpAny_pure ?_
  dsimp only
  refine wpAny_storeSet_of ho hd ?_ (by rw [hs2, hsl, sizeLine_eq]; omega)
  have sb : Heap.SameBut a s.heap (s.heap.update a (Obj.putSet (order.filterMap (es[·]?)) t')) := Heap.SameBut.update ..
  exact hQ _ L2 (order.filterMap (es[·]?)) (ep + 1) t' sb ⟨⟨_, store_at ho hd, ⟨hex.1, hex.2.1, hex.2.2⟩, rfl⟩, r1, T, fun p hpm => isK_same (tup p (r2.mem_iff.mp hpm)) ho hd sb, by rw [r2.length_eq, em]; exact hn, by rw [r2.length_eq]; exact few⟩ r2
theorem add_K (R : TabK P w s.heap a L es ep t) {x : Addr} {k : List Key} (hx : IsK P w s.heap k x) (hu : A.units < cLine) (hn : k ∉ L.map (·.2)) (hfew : L.length + 1 < 64) {Q : Bool → Shared → Prop}
    (hQ : ∀ h' L' es' ep' t', Heap.SameBut a s.heap h' → TabK P w h' a L' es' ep' t' → L'.Perm ((x, k) :: L) → Q true { s with heap := h' }) : wpAny (model P w) A (setAddHashed a (.ref x) (kh P w k)) Q E s := by
  obtain ⟨o, ho, hex, hd⟩ := R.ob
  have hsl := rowsK_size R.rows
  have hroom := R.room
  unfold setAddHashed
  refine wpAny_holding ?_
  rw [show (100000 : Nat) = 99999 + 1 from rfl, setAddHashedIn_succ]
  refine wpAny_bind (wpAny_setState_of ho hd R.fits ?_)
  dsimp only
  refine wp_if_neg (by simp [byScan, Value.scannable]) ?_
  try refine wpAny_bind (wpAny_pure ?_)
  refine wpAny_bind (free_at R hx hu hn true fun K hK hb => ?_)
  dsimp only
  refine wpAny_bind (wpAny_setState_of ho hd R.fits ?_)
  dsimp only
  obtain ⟨q1, q2, q3, q4, _, _, _, _, q9⟩ := R.tab.put hK hb
  generalize t.put (way t.mask (kh P w k) K) = pt at q1 q3 q4 q9 ⊢
  obtain ⟨t1, p⟩ := pt
  dsimp only at q1 q3 q4 q9 ⊢
  subst q1
  have pm : ((L.take (SetTable.below t.place (way t.mask (kh P w k) K))) ++ (x, k) :: L.drop (SetTable.below t.place (way t.mask (kh P w k) K))).Perm ((x, k) :: L) := by
    have h : (L.take (SetTable.below t.place (way t.mask (kh P w k) K)) ++ (x, k) :: L.drop (SetTable.below t.place (way t.mask (kh P w k) K))).Perm ((x, k) :: (L.take (SetTable.below t.place (way t.mask (kh P w k) K)) ++ L.drop (SetTable.below t.place (way t.mask (kh P w k) K)))) := List.perm_middle
    rwa [List.take_append_drop] at h
  have hin : (SetTable.insertAt es (SetTable.below t.place (way t.mask (kh P w k) K)) (kh P w k, Value.ref x)).toList = rowsK P w (L.take (SetTable.below t.place (way t.mask (kh P w k) K)) ++ (x, k) :: L.drop (SetTable.below t.place (way t.mask (kh P w k) K))) := by
    rw [SetTable.toList_insertAt, R.rows, rowsK, rowsK, List.map_append, List.map_cons, List.map_take, List.map_drop]
  have q3' : TabOk t1 ((L.take (SetTable.below t.place (way t.mask (kh P w k) K)) ++ (x, k) :: L.drop (SetTable.below t.place (way t.mask (kh P w k) K))).map fun p => kh P w p.2) := by
    rw [List.map_append, List.map_cons, List.map_take, List.map_drop]
    exact q3
  rw [List.length_map] at q9
  generalize SetTable.insertAt es (SetTable.below t.place (way t.mask (kh P w k) K)) (kh P w k, Value.ref x) = es1 at hin ⊢
  generalize L.take (SetTable.below t.place (way t.mask (kh P w k) K)) ++ (x, k) :: L.drop (SetTable.below t.place (way t.mask (kh P w k) K)) = L1 at pm q3' hin
  have hlen : L1.length = L.length + 1 := pm.length_eq
  have hes : es1.size = L.length + 1 := (rowsK_size hin).trans hlen
  have sb : ∀ t2, Heap.SameBut a s.heap (s.heap.update a (Obj.putSet es1 t2)) := fun _ => Heap.SameBut.update ..
  have go : ∀ t2 : SetTable, TabOk t2 (L1.map fun p => kh P w p.2) → t2.mask = t.mask → t2.fill = L.length + 1 → wpAny (model P w) A (do
      storeSet a es1 t2
      if (!false && t2.tooFull) = true then do
        setRelay a (SetTable.grown (es.size + 1))
        pure true
      else pure true) Q E s := by
    intro t2 T em ef
    refine wpAny_bind (wpAny_storeSet_of ho hd ?_ (by rw [hes, sizeLine_eq]; omega))
    have ho1 := store_at (es' := es1) (t' := t2) ho hd
    have sb := sb t2
    generalize s.heap.update a (Obj.putSet es1 t2) = h1 at sb ho1 ⊢
    have tup1 : ∀ p ∈ L1, IsK P w h1 p.2 p.1 := fun p hp => by
      rcases List.mem_cons.mp (pm.mem_iff.mp hp) with e | hp
      · rw [e]
        exact isK_same hx ho hd sb
      · exact isK_same (R.tup p hp) ho hd sb
    have full : t2.tooFull = decide ((L.length + 1) * 5 ≥ t.mask * 3) := by
      unfold SetTable.tooFull
      rw [ef, em]
    by_cases hf : (L.length + 1) * 5 ≥ t.mask * 3
    · refine wp_if_pos (by rw [full]; simp [hf]) ?_
      rw [hsl]
      have two : (t.mask = 7 ∧ L.length = 4) ∨ (t.mask = 31 ∧ L.length = 18) := by
        rcases R.tab.mok with e | e | e
        · exact .inl ⟨e, by omega⟩
        · exact .inr ⟨e, by omega⟩
        · omega
      have hsz : t2.place.size = es1.size := by rw [T.sz, List.length_map, hes, hlen]
      have anew : ∀ M, SetTable.sizeAbove (SetTable.grown (L.length + 1)) - 1 = M → MaskOk M → SetTable.sizeAbove (SetTable.grown (L.length + 1)) ≤ 128 → (L.length + 1) * 5 < M * 3 →
          wpAny (model P w) A (setRelay a (SetTable.grown (L.length + 1))) (fun _ s' => wpAny (model P w) A (pure true) Q E s') E { s with heap := h1 } := fun M m1 m2 m3 m4 =>
        relay_K (s := { s with heap := h1 }) ho1 ⟨hex.1, hex.2.1, hex.2.2⟩ rfl hin hsz T.dm (by omega) tup1 (by omega) m1 m2 m3 (by omega) fun h2 L2 es2 ep2 t3 sb2 R2 pm2 => wpAny_pure (hQ h2 L2 es2 ep2 t3 (sb.trans sb2) R2 (pm2.trans pm))
      refine wpAny_bind ?_
      rcases two with ⟨_, e2⟩ | ⟨_, e2⟩
      · exact anew 31 (by rw [e2, size_20]) (.inr (.inl rfl)) (by rw [e2, size_20]; decide) (by omega)
      · exact anew 127 (by rw [e2, size_76]) (.inr (.inr rfl)) (by rw [e2, size_76]; decide) (by omega)
    · refine wp_if_neg (by rw [full]; simp [hf]) ?_
      exact wpAny_pure (hQ h1 L1 es1 (ep + 1) t2 sb ⟨⟨_, ho1, ⟨hex.1, hex.2.1, hex.2.2⟩, rfl⟩, hin, T, tup1, by omega, by omega⟩ pm)
  have g1 := go t1 q3' q4 q9
  have g2 := go { t1 with plain := false } ⟨q3'.ris, q3'.dm, q3'.sz, q3'.mok, q3'.bd, q3'.reach⟩ q4 q9
  by_cases hp : t1.plain = true
  · refine wp_if_pos hp (wpAny_bind (hash_tup hx fun r => ?_))
    cases r
    · exact g2
    · exact g1
  · exact wp_if_neg hp (wpAny_bind (wpAny_pure g1))
end
end WX
namespace WX
open PySem PySem.Spec PyProof.Rows L2
/-! ### such a set over the layer -/
structure TabK0 (P : Program) (w : World) (h : Heap) (a : Addr) (L : List (Addr × List Key)) : Prop where
  ex : ∃ o es ep t, h.get? a = some o ∧ o.ExactSet ∧ o.data = .set es ep t ∧ es.toList = rowsK P w L ∧ TabOk t (L.map fun p => kh P w p.2) ∧ L.length * 5 < t.mask * 3 ∧ L.length < 64
def SetKT (P : Program) (w : World) (a : Addr) (L : List (Addr × List Key)) : HO := .ext fun h => TabK0 P w h a L
section
variable {P : Program} {w : World} {h : Heap} {a : Addr} {L : List (Addr × List Key)}
theorem TabK0.of {es : Array (Int × Value)} {ep : Nat} {t : SetTable} (R : TabK P w h a L es ep t) : TabK0 P w h a L := let ⟨o, h1, h2, h3⟩ := R.ob; ⟨o, es, ep, t, h1, h2, h3, R.rows, R.tab, R.room, R.few⟩
theorem TabK0.full (R : TabK0 P w h a L) (ht : ∀ p ∈ L, IsK P w h p.2 p.1) : ∃ es ep t, TabK P w h a L es ep t :=
  let ⟨o, es, ep, t, h1, h2, h3, h4, h5, h6, h7⟩ := R.ex; ⟨es, ep, t, ⟨o, h1, h2, h3⟩, h4, h5, ht, h6, h7⟩
theorem setKT_ok {H : Hp} (R : TabK0 P w h a L) : ObjOk P w H h a (SetKT P w a L) := by
  obtain ⟨o, es, ep, t, h1, r⟩ := R.ex
  exact ⟨R, ⟨o, h1⟩, fun g1 g2 ⟨o', es', ep', t', q1, r'⟩ k => ⟨o', es', ep', t', k _ q1, r'⟩⟩
/-- all members stand -/
def AllT (H : Hp) (L : List (Addr × List Key)) : Prop := ∀ p ∈ L, H p.1 = some (.tup (p.2.map kV))
theorem AllT.is {H : Hp} (h1 : AllT H L) (ok : HOk P w H h) : ∀ p ∈ L, IsK P w h p.2 p.1 := fun p hp => key_of ok (h1 p hp)
end
section
variable {X : Cx} {pins : List (Addr × Obj)} {σ : L2.St} {H : Hp} {s : Shared} {a : Addr} {L : List (Addr × List Key)}
theorem setKT_get (I : Inv X pins σ H s) (ha : H a = some (SetKT X.prog X.w a L)) : TabK0 X.prog X.w s.heap a L := (I.hok a _ ha).1
theorem TabK0.typeIs {P : Program} {w : World} (R : TabK0 P w s.heap a L) : s.TypeIs (.ref a) "set" := let ⟨o, _, _, _, h1, h2, _⟩ := R.ex; ⟨o, h1, h2.1⟩
theorem TabK0.noDict {P : Program} {w : World} (R : TabK0 P w s.heap a L) : ∀ b, Value.ref a = .ref b → ∃ ob, s.heap.get? b = some ob ∧ ob.dict = none := by
  intro b e
  cases e
  obtain ⟨o, _, _, _, h1, h2, _⟩ := R.ex
  exact ⟨o, h1, h2.2.1⟩
/-- set() -/
def rSet0T (P : Program) (w : World) : List V → Hp → VK → Prop := fun xs H Q => xs = [] ∧ ∀ p, H p = none → Q (.ref p) (L2.upd H p (SetKT P w p []))
theorem cr_set0T : CallR X (.type "set") (rSet0T X.prog X.w) := by
  intro pins s σ H xs us Q I r h
  obtain ⟨rfl, q⟩ := h
  cases r
  refine setR_new fun _ => ?_
  have new : TabK0 X.prog X.w (s.heap.push { cls := .type "set", dict := none, data := .set #[] 0 (.fresh 0 0 (!X.w.params.followText "set-order")) }) s.heap.objs.size [] := by
    refine ⟨_, #[], 0, _, Heap.get?_push_size _ rfl, ⟨rfl, rfl, rfl⟩, rfl, rfl, ⟨List.Pairwise.nil, rfl, rfl, .inl rfl, fun x hx => (by cases hx), fun i h j hi => (by simp at hi)⟩, ?_, ?_⟩
    · show 0 * 5 < 7 * 3
      decide
    · show 0 < 64
      decide
  exact ⟨.ref _, L2.upd H s.heap.objs.size (SetKT X.prog X.w s.heap.objs.size []), I.laid (t' := s.toks) (fun b u e => Heap.get?_push_of_some _ e) (Nat.le_refl _) (setKT_ok new), rfl, q _ (I.hok.fresh (Nat.le_refl _))⟩
/-- k in found, where k is not -/
def rNoT (P : Program) (w : World) (neg : Bool) : R2 := fun x y H Q => ∃ a b k L, x = V.ref b ∧ y = V.ref a ∧ H b = some (.tup (k.map kV)) ∧ H a = some (SetKT P w a L) ∧ AllT H L ∧ k ∉ L.map (·.2) ∧ Q (.bl neg) H
theorem has_not (hu : X.A.units + 8 < cLine) (I : Inv X pins σ H s) {b : Addr} {k : List Key} (hb : H b = some (.tup (k.map kV))) (ha : H a = some (SetKT X.prog X.w a L)) (hall : AllT H L) (hn : k ∉ L.map (·.2)) {E : Value → Shared → Prop} {Q : Bool → Shared → Prop}
    (q : ∀ tk, Q false { s with toks := tk }) : wpAny (model X.prog X.w) X.A (contains (.ref a) (.ref b)) Q E s := by
  have R0 := setKT_get I ha
  have hT := R0.typeIs
  have hk : IsK X.prog X.w s.heap k b := key_of I.hok hb
  obtain ⟨es, ep, t, R⟩ := R0.full (hall.is I.hok)
  have hu1 : X.A.in1.units < cLine := by show X.A.units + 1 < cLine; omega
  have find : ∀ tk (E' : Value → Shared → Prop), wpAny (model X.prog X.w) X.A.in1 (setFind a (.ref b) (kh X.prog X.w k)) (fun r s' => r = none ∧ s' = { s with toks := tk }) E' { s with toks := tk } := fun tk E' => by
    have Rk : TabK X.prog X.w ({ s with toks := tk } : Shared).heap a L es ep t := R
    obtain ⟨o, ho, hex, hd⟩ := Rk.ob
    unfold setFind
    rw [show (100000 : Nat) = 99999 + 1 from rfl]
    unfold setFindIn
    refine wpAny_bind (wpAny_setState_of ho hd Rk.fits ?_)
    dsimp only
    refine wp_if_neg (by simp [byScan, Value.scannable]) ?_
    try refine wpAny_bind (wpAny_pure ?_)
    refine wpAny_bind (free_at Rk (x := b) hk hu1 hn false fun K _ _ => ?_)
    exact wpAny_pure ⟨rfl, rfl⟩
  unfold contains
  try with_reducible refine wpAny_holding ?_
  refine wpAny_bind (wpAny_specialOf hT F.slot_set_contains.lookup ?_)
  show wpAny _ _ (if (some (Value.builtin "set.__contains__") == some Value.none) = true then _ else _) _ _ s
  rw [if_neg (by rw [beq_builtin_none]; exact Bool.false_ne_true)]
  refine wpAny_bind (wpAny_callSpecialUnlessNone?_slot (name := Str.ofString "__contains__") hT F.slot_set_contains (wpAny_call_entry F.slot_set_contains hT entry_set_contains ?_ (F.args_set_contains_2 _ _)))
  unfold Builtin.«frozenset.__contains__» Builtin.Frozenset.oneOther
  simp only [List.isEmpty_nil, bind_assoc]
  unfold Builtin.Frozenset.addrOf Builtin.Frozenset.withSetAsKey setContains
  refine wpAny_bind (wpAny_pure ?_)
  try dsimp only
  refine wpAny_bind (wpAny_pure ?_)
  try dsimp only
  refine wpAny_bind (wpAny_tryCatch (wpAny_holding (wpAny_bind (wpAny_pyHash_tuple (by show X.A.units + 1 < cLine; omega) hk ?_))))
  refine wpAny_bind (wpAny_mono (find _ _) (fun r s' z => ?_) fun _ _ z => z)
  obtain ⟨rfl, rfl⟩ := z
  exact wpAny_pure (wpAny_pure ⟨_, rfl, wpAny_truthy_bool (q _)⟩)
theorem or_noT (hu : X.A.units + 8 < cLine) : OpR X (compareOp .In) (rNoT X.prog X.w false) := by
  intro pins s σ H x y v u Q I rx ry h
  obtain ⟨a, b, k, L, rfl, rfl, hb, ha, hall, hn, q⟩ := h
  cases rx
  cases ry
  show wpAny _ _ (do return Value.bool (← contains (.ref a) (.ref b))) _ _ s
  exact wpAny_bind (has_not hu I hb ha hall hn fun tk => wpAny_pure ⟨.bl false, H, I.tok tk, rfl, q⟩)
/-- found.add(k), k new -/
def tAddT (P : Program) (w : World) (to : TE) (t : TA) : TE := fun σ H Q => to σ H fun x H1 => (∃ a L, x = V.ref a ∧ H1 a = some (SetKT P w a L)) ∧ t σ H1 fun xs H2 => ∃ a b k L, x = V.ref a ∧ xs = [V.ref b] ∧ H2 a = some (SetKT P w a L) ∧ H2 b = some (.tup (k.map kV)) ∧
  AllT H2 L ∧ k ∉ L.map (·.2) ∧ L.length + 1 < 64 ∧ ∀ L', L'.Perm ((b, k) :: L) → Q .non (L2.upd H2 a (SetKT P w a L'))
variable {o e : Expr} {to : TE} {t : TA} {apos cpos : Pos}
theorem pe_addT (hu : X.A.units + 8 < cLine) (ho : PE X o to) (ha : PA X [e] t) (hbase : attributeBase o "add" X.env (eval o X.env) = eval o X.env := by rfl)
    (hfew : ((backTo cpos (starEach [e] X.env)).all (fun x => !x.1) && (backToKw cpos (keywordEach [] X.env)).all (fun x => x.1.isSome) && decide ([e].length + ([] : List Keyword).length + (if ([] : List Keyword).isEmpty then 0 else 1) < 30)) = true := by rfl)
    (hline : (apos.endLine == cpos.line) = true := by rfl) (hs : starEach [e] X.env = (false, eval e X.env) :: starEach [] X.env := by rfl) (hpl : (backTo cpos (starEach [] X.env)).any (·.1) = false := by rfl) :
    PE X (.Call (.Attribute o "add" apos) [e] [] cpos) (tAddT X.prog X.w to t) := by
  refine ⟨fun pins s σ H Q I h => wpAny_Call_method_late hbase hfew hline rfl (thn (ho.run pins s σ H _ I h) fun v s1 ⟨x, H1, I1, r1, ⟨a, L0, ex, hka⟩, q1⟩ => ?_)⟩
  subst ex
  have hS := setKT_get I1 hka
  cases r1
  refine ⟨"set", "set.add", F.plainAttrs_set, F.slot_set_add, F.type_set_add, hS.typeIs, hS.noDict, ?_⟩
  have hA := ha.run cpos pins s1 σ H1 _ I1 q1
  rw [hs] at hA ⊢
  refine Calls.callWith_builtin (by show (false || (backTo cpos (starEach [] X.env)).any (·.1)) = false; rw [hpl]; rfl) (Calls.evalArgs_plain (thn hA fun us s2 ⟨vs, H2, I2, r2, a', b, k, L, ea, ev, hs2, hb, hall, hn, hfew', q2⟩ => ?_))
  cases ea
  subst ev
  obtain ⟨u, rfl, ru⟩ := vals1 r2
  cases ru
  have R0 := setKT_get I2 hs2
  have hT := R0.typeIs
  have hk : IsK X.prog X.w s2.heap k b := key_of I2.hok hb
  obtain ⟨es, ep, t0, R⟩ := R0.full (hall.is I2.hok)
  refine wpAny_call_entry F.slot_set_add hT F.entry_set_add ?_ (F.args_set_add_2 _ _)
  unfold Builtin.«set.add» Builtin.Frozenset.oneOther
  simp only [List.isEmpty_nil, bind_assoc]
  unfold Builtin.Frozenset.addrOf setAdd
  refine wpAny_bind (wpAny_pure ?_)
  try dsimp only
  try refine wpAny_bind (wpAny_pure ?_)
  try dsimp only
  refine wpAny_bind (wpAny_holding (wpAny_bind (wpAny_pyHash_tuple (by show X.A.units + 1 < cLine; omega) hk ?_)))
  have Rk : TabK X.prog X.w ({ s2 with toks := s2.toks + (k.length + 1) } : Shared).heap a L es ep t0 := R
  refine add_K (s := { s2 with toks := s2.toks + (k.length + 1) }) Rk hk (by show X.A.units + 1 < cLine; omega) hn hfew' fun h' L' es' ep' t' sb R' pm => ?_
  show wpAny _ _ (ret Value.none) _ _ _
  have he : ∃ u, h'.get? a = some u := let ⟨o, h1, _⟩ := R'.ob; ⟨o, h1⟩
  exact wpAny_pure ⟨_, rfl, .non, L2.upd H2 a (SetKT X.prog X.w a L'), I2.write (e := a) (t' := s2.toks + (k.length + 1)) (by rw [hs2]; trivial) (.inl rfl) (fun b u hb hu => (sb.2 b hb).trans hu) he (setKT_ok (.of R')), rfl, q2 L' pm⟩
end
end WX
namespace WX
open PySem PySem.Spec PyProof.Rows L2
/-! ### texts and pairs of texts in order -/
theorem str_ext {a b : Str} (h : a.cps.toList = b.cps.toList) : a = b := by
  cases a
  cases b
  exact congrArg Str.mk (Array.toList_inj.mp h)
def leS (a b : Str) : Bool := decide (a.cps.toList ≤ b.cps.toList)
def leP (p q : Str × Str) : Bool := decide (p.1.cps.toList < q.1.cps.toList ∨ (p.1 = q.1 ∧ p.2.cps.toList ≤ q.2.cps.toList))
theorem leS_trans (a b c : Str) (h : leS a b = true) (g : leS b c = true) : leS a c = true := decide_eq_true (List.le_trans (of_decide_eq_true h) (of_decide_eq_true g))
theorem leS_total (a b : Str) : (leS a b || leS b a) = true := by
  rcases List.le_total a.cps.toList b.cps.toList with h | h
  · rw [show leS a b = true from decide_eq_true h, Bool.true_or]
  · rw [show leS b a = true from decide_eq_true h, Bool.or_true]
theorem leS_anti (a b : Str) (h : leS a b = true) (g : leS b a = true) : a = b := str_ext (List.le_antisymm (of_decide_eq_true h) (of_decide_eq_true g))
theorem leP_trans (a b c : Str × Str) (h : leP a b = true) (g : leP b c = true) : leP a c = true := by
  refine decide_eq_true ?_
  rcases of_decide_eq_true h with h | ⟨h1, h2⟩ <;> rcases of_decide_eq_true g with g | ⟨g1, g2⟩
  · exact .inl (List.lt_trans h g)
  · exact .inl (g1 ▸ h)
  · exact .inl (h1 ▸ g)
  · exact .inr ⟨h1.trans g1, List.le_trans h2 g2⟩
theorem leP_total (a b : Str × Str) : (leP a b || leP b a) = true := by
  have k : leP a b = true ∨ leP b a = true := by
    rcases List.le_total a.1.cps.toList b.1.cps.toList with h | h
    · rcases List.le_iff_lt_or_eq.mp h with h | h
      · exact .inl (decide_eq_true (.inl h))
      · have e := str_ext h
        rcases List.le_total a.2.cps.toList b.2.cps.toList with g | g
        · exact .inl (decide_eq_true (.inr ⟨e, g⟩))
        · exact .inr (decide_eq_true (.inr ⟨e.symm, g⟩))
    · rcases List.le_iff_lt_or_eq.mp h with h | h
      · exact .inr (decide_eq_true (.inl h))
      · have e := str_ext h
        rcases List.le_total a.2.cps.toList b.2.cps.toList with g | g
        · exact .inl (decide_eq_true (.inr ⟨e.symm, g⟩))
        · exact .inr (decide_eq_true (.inr ⟨e, g⟩))
  rcases k with k | k <;> rw [k] <;> simp
theorem leP_anti (a b : Str × Str) (h : leP a b = true) (g : leP b a = true) : a = b := by
  rcases of_decide_eq_true h with h | ⟨h1, h2⟩ <;> rcases of_decide_eq_true g with g | ⟨g1, g2⟩
  · exact absurd (List.lt_trans h g) (List.lt_irrefl _)
  · rw [g1] at h
    exact absurd h (List.lt_irrefl _)
  · rw [h1] at g
    exact absurd g (List.lt_irrefl _)
  · exact Prod.ext h1 (str_ext (List.le_antisymm h2 g2))
def sortS (l : List Str) : List Str := l.mergeSort leS
def sortP (l : List (Str × Str)) : List (Str × Str) := l.mergeSort leP
theorem sortS_pm (l : List Str) : (sortS l).Perm l := List.mergeSort_perm l leS
theorem sortP_pm (l : List (Str × Str)) : (sortP l).Perm l := List.mergeSort_perm l leP
theorem sortS_eq {l m : List Str} (h : l.Perm m) : sortS l = sortS m :=
  List.Perm.eq_of_pairwise (fun a b _ _ => leS_anti a b) (List.pairwise_mergeSort leS_trans leS_total l) (List.pairwise_mergeSort leS_trans leS_total m) ((sortS_pm l).trans (h.trans (sortS_pm m).symm))
theorem sortP_eq {l m : List (Str × Str)} (h : l.Perm m) : sortP l = sortP m :=
  List.Perm.eq_of_pairwise (fun a b _ _ => leP_anti a b) (List.pairwise_mergeSort leP_trans leP_total l) (List.pairwise_mergeSort leP_trans leP_total m) ((sortP_pm l).trans (h.trans (sortP_pm m).symm))
theorem sortS_of {l m : List Str} (h : l.Perm (sortS m)) : sortS l = sortS m := sortS_eq (h.trans (sortS_pm m))
theorem sortP_of {l m : List (Str × Str)} (h : l.Perm (sortP m)) : sortP l = sortP m := sortP_eq (h.trans (sortP_pm m))
theorem dataLe_P : PySem.W.dataLe false (fun p : Str × Str => PyData.tuple [.str p.1, .str p.2]) = leP := by
  funext p q
  rw [PySem.W.dataLe_eq]
  show (!PySem.W.dataLt (.tuple [.str q.1, .str q.2]) (.tuple [.str p.1, .str p.2])) = leP p q
  rw [PySem.W.dataLt_pair (by simp [PySem.W.alike]) (by simp [PySem.W.alike]), PySem.W.dataLt_str, PySem.W.dataLt_str]
  simp only [PyData.eqv, beq_iff_eq]
  unfold leP
  by_cases h1 : q.1 = p.1
  · rw [if_pos h1]
    by_cases h2 : q.2 = p.2
    · rw [if_pos h2]
      simp [h1, h2, List.le_refl]
    · rw [if_neg h2, PySem.W.not_lt_str]
      simp [h1, List.lt_irrefl]
  · rw [if_neg h1, PySem.W.not_lt_str]
    have h3 : ¬ p.1 = q.1 := fun z => h1 z.symm
    refine decide_eq_decide.mpr ?_
    rw [List.le_iff_lt_or_eq]
    have h4 : ¬ p.1.cps.toList = q.1.cps.toList := fun z => h3 (str_ext z)
    simp [h3, h4]
theorem dataLe_S : PySem.W.dataLe false (fun x : Str => PyData.str x) = leS := PySem.W.dataLe_str (fun x => x)
/-! ### the pairs that a list's things are -/
def PT (H : Hp) (ps : List (Str × Str)) (vs : List V) : Prop := vs.length = ps.length ∧ ∀ (i : Nat) p v, ps[i]? = some p → vs[i]? = some v → ∃ t, v = .ref t ∧ H t = some (.tup [.str p.1, .str p.2])
theorem each_get {α β : Type} {R : α → β → Prop} : ∀ {as : List α} {bs : List β}, as.length = bs.length → (∀ (i : Nat) a b, as[i]? = some a → bs[i]? = some b → R a b) → PySem.W.EachIs R as bs
  | [], [], _, _ => .nil
  | a :: as, b :: bs, hl, h => .cons (h 0 a b rfl rfl) (each_get (Nat.succ.inj hl) fun i x y h1 h2 => h (i + 1) x y h1 h2)
theorem get_each {α β : Type} {R : α → β → Prop} {as : List α} {bs : List β} (e : PySem.W.EachIs R as bs) : as.length = bs.length ∧ ∀ (i : Nat) a b, as[i]? = some a → bs[i]? = some b → R a b := by
  induction e with
  | nil => exact ⟨rfl, fun i a b h => (by simp at h)⟩
  | cons h _ ih =>
    refine ⟨congrArg Nat.succ ih.1, fun i x y h1 h2 => ?_⟩
    cases i with
    | zero =>
      simp at h1 h2
      exact h1 ▸ h2 ▸ h
    | succ i => exact ih.2 i x y (by simpa using h1) (by simpa using h2)
theorem PT.keep {H H' : Hp} {ps : List (Str × Str)} {vs : List V} (h : PT H ps vs) (k : ∀ t xs, H t = some (.tup xs) → H' t = some (.tup xs)) : PT H' ps vs := ⟨h.1, fun i p v h1 h2 => by
  obtain ⟨t, e, ht⟩ := h.2 i p v h1 h2
  exact ⟨t, e, k t _ ht⟩⟩
theorem PT.nil {H : Hp} : PT H [] [] := ⟨rfl, fun i p v h => (by simp at h)⟩
def rSortedQ (K : PySem.W.Frag) : List V → Hp → VK → Prop := fun xs H Q => ∃ a ps vs, xs = [V.ref a] ∧ SqL K H a vs ∧ PT H ps vs ∧ ∀ ys p, PT H (sortP ps) ys → H p = none → Q (.ref p) (L2.upd H p (.lst ys))
theorem cr_sortedQ {X : Cx} (hu : X.A.units + 64 < cLine) : CallR X (.builtin "sorted") (rSortedQ X.K) := by
  intro pins s σ H xs us Q I r h
  obtain ⟨a, ps, vs, rfl, hs, hp, q⟩ := h
  obtain ⟨its, rv, hl, hz⟩ := I.list hs
  obtain ⟨u, rfl, ru⟩ := vals1 r
  cases ru
  have hlen := rv.length
  have e0 : PySem.W.EachIs (fun (u : Value) (p : Str × Str) => ∃ t, u = .ref t ∧ H t = some (.tup [.str p.1, .str p.2])) its ps := by
    refine each_get (by rw [← hlen, hp.1]) fun i u p h1 h2 => ?_
    have hi : i < vs.length := by rw [hlen]; exact (List.getElem?_eq_some_iff.mp h1).1
    obtain ⟨u', g1, g2⟩ := rv.get (List.getElem?_eq_getElem hi)
    rw [h1] at g1
    cases g1
    obtain ⟨t, e, ht⟩ := hp.2 i p _ h2 (List.getElem?_eq_getElem hi)
    rw [e] at g2
    cases g2
    exact ⟨t, rfl, ht⟩
  have er : PySem.W.EachIs (fun (u : Value) (p : Str × Str) => ∃ as, Reads s.heap u ((fun p : Str × Str => PyData.tuple [.str p.1, .str p.2]) p) as) its ps := e0.mono fun u p ⟨t, e, ht⟩ => by
    subst e
    exact Dp.reads I _ (.ref t) _ (.tup (.inl (.inl ht)) (.cons (.str _) (.cons (.str _) .nil))) rfl
  refine PySem.W.sorted_data (enc := fun p : Str × Str => PyData.tuple [.str p.1, .str p.2]) hl.isList e0 er (PySem.W.AllAlike.of fun b b' => by simp [PySem.W.alike, PySem.W.alikeAll]) (PySem.W.Sortable.tuples fun b => ⟨_, _, rfl⟩) (by rw [← hp.1]; exact hz) (fun b _ => ?_) fun out ho eo => ?_
  · have : (PyData.tuple [.str b.1, .str b.2]).depth ≤ 2 := by simp [PyData.depth, PyData.depthAll]
    omega
  · rw [dataLe_P] at eo
    obtain ⟨g1, g2⟩ := get_each eo
    obtain ⟨ep, he⟩ := PyProof.Rows.sortedAll_at s.heap its out.toArray
    obtain ⟨ys, hy1, hy2⟩ : ∃ ys : List V, Vals ys out ∧ PT H (sortP ps) ys := by
      have key : ∀ {out : List Value} {ps : List (Str × Str)}, PySem.W.EachIs (fun (u : Value) (p : Str × Str) => ∃ t, u = .ref t ∧ H t = some (.tup [.str p.1, .str p.2])) out ps → ∃ ys : List V, Vals ys out ∧ PT H ps ys := by
        intro out ps e
        induction e with
        | nil => exact ⟨[], .nil, .nil⟩
        | @cons u p us ps h _ ih =>
          obtain ⟨ys, h1, h2⟩ := ih
          obtain ⟨t, rfl, ht⟩ := h
          refine ⟨.ref t :: ys, .cons rfl h1, congrArg Nat.succ h2.1, fun i p v g1 g2 => ?_⟩
          cases i with
          | zero =>
            simp at g1 g2
            exact ⟨t, g2.symm, g1 ▸ ht⟩
          | succ i => exact h2.2 i p v (by simpa using g1) (by simpa using g2)
      exact key eo
    have hl2 : ys.length ≤ sizeLine := by
      rw [hy2.1, (sortP_pm ps).length_eq, ← hp.1]
      exact hz
    exact ⟨.ref _, L2.upd H (s.heap.objs.size + 1) (.lst ys), I.laid (t' := s.toks) (fun _ _ => PyProof.Rows.sortedAll_old) (Nat.le_succ _) ⟨hl2, out, ep, hy1, he⟩, rfl, q ys _ hy2 (I.hok.fresh (Nat.le_succ _))⟩
end WX
namespace WX
open PySem PySem.Spec PyProof.Rows L2
/-! ### the less and the greater of two texts -/
def strAt (x y : Str) (i : Nat) : List Nat := if i = 0 then x.cps.toList else y.cps.toList
section
variable {prog : Program} {w : World} {A : Around} {E : Value → Shared → Prop} {s : Shared} {x y : Str} {t u : Tok}
theorem two_at {i : Nat} {v : Value} (h : (#[Value.str x t, Value.str y u] : Array Value)[i]? = some v) : (i = 0 ∧ v = .str x t) ∨ (i = 1 ∧ v = .str y u) := by
  match i, h with
  | 0, h => exact .inl ⟨rfl, by simpa using h.symm⟩
  | 1, h => exact .inr ⟨rfl, by simpa using h.symm⟩
  | i + 2, h => simp at h
theorem cmp_lt : CmpOf prog w A .Lt (fun i v => (#[Value.str x t, Value.str y u] : Array Value)[i]? = some v) (fun i j => decide (strAt x y i < strAt x y j)) := by
  intro i j vi vj s Q E hi hj hQ
  show wpAny (model prog w) A (compareOp .Lt vi vj) Q E s
  rcases two_at hi with ⟨rfl, rfl⟩ | ⟨rfl, rfl⟩ <;> rcases two_at hj with ⟨rfl, rfl⟩ | ⟨rfl, rfl⟩ <;> exact lt_str hQ
theorem cmp_gt : CmpOf prog w A .Gt (fun i v => (#[Value.str x t, Value.str y u] : Array Value)[i]? = some v) (fun i j => decide (strAt x y j < strAt x y i)) := by
  intro i j vi vj s Q E hi hj hQ
  show wpAny (model prog w) A (compareOp .Gt vi vj) Q E s
  rcases two_at hi with ⟨rfl, rfl⟩ | ⟨rfl, rfl⟩ <;> rcases two_at hj with ⟨rfl, rfl⟩ | ⟨rfl, rfl⟩ <;> exact PySem.P.gt_str hQ
theorem min_S {Q : Value → Shared → Prop} (hh : A.handled = none) (h : ∀ h' tk, (∀ c o, s.heap.get? c = some o → h'.get? c = some o) → Q (if y.cps.toList < x.cps.toList then .str y u else .str x t) { s with heap := h', toks := tk }) :
    wpAny (model prog w) A (call (.builtin "min") [.str x t, .str y u]) Q E s := by
  have hT : (s.heap.push { cls := .type "tuple", data := .seq #[.str x t, .str y u] }).IsTuple s.heap.objs.size #[.str x t, .str y u] := ⟨_, Heap.get?_push_size _ rfl, rfl, 0, rfl⟩
  have hz : (s.heap.push { cls := .type "tuple", data := .seq #[.str x t, .str y u] }).objs.size = s.heap.objs.size + 1 := Heap.size_push ..
  refine call_min_two (wpAny_pyIter_tuple hT ⟨_, [_, s.heap.objs.size], [_], _, _, _, _, rfl, Walks.tuple (A := A.in1) hh _ s.heap.objs.size (by rw [hz]; exact Nat.ne_of_lt (Nat.lt_succ_self _)) #[.str x t, .str y u], ⟨⟨_, Heap.get?_push_size _ rfl, rfl, rfl⟩, hT.push _⟩, fun c hc => ?_, Nat.succ_pos _, cmp_lt, fun v h' tk hP hk => ?_⟩)
  · show c < ((s.heap.push _).push _).objs.size
    rw [Heap.size_push, hz]
    have hc : c = s.heap.objs.size + 1 ∨ c = s.heap.objs.size := by simpa [hz] using hc
    rcases hc with z | z <;> rw [z]
    · exact Nat.lt_succ_self _
    · exact Nat.lt_succ_of_lt (Nat.lt_succ_self _)
  · have hv : v = if y.cps.toList < x.cps.toList then .str y u else .str x t := by
      have e : argBest (fun i j => decide (strAt x y i < strAt x y j)) 1 = if y.cps.toList < x.cps.toList then 1 else 0 := by simp [argBest, strAt]
      have hP : (#[Value.str x t, Value.str y u] : Array Value)[argBest (fun i j => decide (strAt x y i < strAt x y j)) 1]? = some v := hP
      rw [e] at hP
      by_cases c : y.cps.toList < x.cps.toList
      · rw [if_pos c] at hP ⊢
        simpa using hP.symm
      · rw [if_neg c] at hP ⊢
        simpa using hP.symm
    rw [hv]
    refine h h' tk fun c o e => hk c o (fun hm => ?_) (Heap.get?_push_of_some _ (Heap.get?_push_of_some _ e))
    have hm : c = s.heap.objs.size + 1 := by simpa [hz] using hm
    exact absurd (Heap.lt_size e) (by rw [hm]; exact Nat.not_lt.mpr (Nat.le_succ _))
theorem max_S {Q : Value → Shared → Prop} (hh : A.handled = none) (h : ∀ h' tk, (∀ c o, s.heap.get? c = some o → h'.get? c = some o) → Q (if x.cps.toList < y.cps.toList then .str y u else .str x t) { s with heap := h', toks := tk }) :
    wpAny (model prog w) A (call (.builtin "max") [.str x t, .str y u]) Q E s := by
  have hT : (s.heap.push { cls := .type "tuple", data := .seq #[.str x t, .str y u] }).IsTuple s.heap.objs.size #[.str x t, .str y u] := ⟨_, Heap.get?_push_size _ rfl, rfl, 0, rfl⟩
  have hz : (s.heap.push { cls := .type "tuple", data := .seq #[.str x t, .str y u] }).objs.size = s.heap.objs.size + 1 := Heap.size_push ..
  refine call_max_two (wpAny_pyIter_tuple hT ⟨_, [_, s.heap.objs.size], [_], _, _, _, _, rfl, Walks.tuple (A := A.in1) hh _ s.heap.objs.size (by rw [hz]; exact Nat.ne_of_lt (Nat.lt_succ_self _)) #[.str x t, .str y u], ⟨⟨_, Heap.get?_push_size _ rfl, rfl, rfl⟩, hT.push _⟩, fun c hc => ?_, Nat.succ_pos _, cmp_gt, fun v h' tk hP hk => ?_⟩)
  · show c < ((s.heap.push _).push _).objs.size
    rw [Heap.size_push, hz]
    have hc : c = s.heap.objs.size + 1 ∨ c = s.heap.objs.size := by simpa [hz] using hc
    rcases hc with z | z <;> rw [z]
    · exact Nat.lt_succ_self _
    · exact Nat.lt_succ_of_lt (Nat.lt_succ_self _)
  · have hv : v = if x.cps.toList < y.cps.toList then .str y u else .str x t := by
      have e : argBest (fun i j => decide (strAt x y j < strAt x y i)) 1 = if x.cps.toList < y.cps.toList then 1 else 0 := by simp [argBest, strAt]
      have hP : (#[Value.str x t, Value.str y u] : Array Value)[argBest (fun i j => decide (strAt x y j < strAt x y i)) 1]? = some v := hP
      rw [e] at hP
      by_cases c : x.cps.toList < y.cps.toList
      · rw [if_pos c] at hP ⊢
        simpa using hP.symm
      · rw [if_neg c] at hP ⊢
        simpa using hP.symm
    rw [hv]
    refine h h' tk fun c o e => hk c o (fun hm => ?_) (Heap.get?_push_of_some _ (Heap.get?_push_of_some _ e))
    have hm : c = s.heap.objs.size + 1 := by simpa [hz] using hm
    exact absurd (Heap.lt_size e) (by rw [hm]; exact Nat.not_lt.mpr (Nat.le_succ _))
end
def rMinS : List V → Hp → VK → Prop := fun xs H Q => ∃ x y, xs = [V.str x, V.str y] ∧ Q (.str (if y.cps.toList < x.cps.toList then y else x)) H
def rMaxS : List V → Hp → VK → Prop := fun xs H Q => ∃ x y, xs = [V.str x, V.str y] ∧ Q (.str (if x.cps.toList < y.cps.toList then y else x)) H
theorem call_minS {X : Cx} (hc : X.calm = true) : CallR X (.builtin "min") rMinS := by
  intro pins s σ H xs us Q I r h
  obtain ⟨x, y, rfl, q⟩ := h
  obtain ⟨u, v, rfl, ⟨t, rfl⟩, ⟨t', rfl⟩⟩ := vals2 r
  refine min_S (I.ok.hd hc) fun h' tk k => ⟨_, H, I.kept k, ?_, q⟩
  by_cases c : y.cps.toList < x.cps.toList
  · rw [if_pos c, if_pos c]; exact ⟨_, rfl⟩
  · rw [if_neg c, if_neg c]; exact ⟨_, rfl⟩
theorem call_maxS {X : Cx} (hc : X.calm = true) : CallR X (.builtin "max") rMaxS := by
  intro pins s σ H xs us Q I r h
  obtain ⟨x, y, rfl, q⟩ := h
  obtain ⟨u, v, rfl, ⟨t, rfl⟩, ⟨t', rfl⟩⟩ := vals2 r
  refine max_S (I.ok.hd hc) fun h' tk k => ⟨_, H, I.kept k, ?_, q⟩
  by_cases c : x.cps.toList < y.cps.toList
  · rw [if_pos c, if_pos c]; exact ⟨_, rfl⟩
  · rw [if_neg c, if_neg c]; exact ⟨_, rfl⟩
end WX
namespace WX
open PySem PySem.Spec PyProof.Rows L2
/-! ### the variables of an instance whose class is known, and its length -/
def tFldC (C : Addr) (f : Str) (ta : TE) : TE := fun σ H Q => ta σ H fun x H1 => ∃ a dx fs v, x = .ref a ∧ H1 a = some (.ins C dx fs) ∧ fs.lookup f = some v ∧ Q v H1
def sFldC (C : Addr) (f : Str) (ta tv : TE) : TS := fun D σ H => tv σ H fun y H1 => ta σ H1 fun x H2 => ∃ a dx fs, x = .ref a ∧ H2 a = some (.ins C dx fs) ∧ fs.length < 1000 ∧ D.nx σ (L2.upd H2 a (.ins C dx (putF f y fs)))
section
variable {X : Cx} {C : Addr} {o e value : Expr} {f : Str} {pos pos' : Pos} {ta tv : TE}
theorem pe_fldC (c : Cls X.K C) (n : NoAttr X.K C f) (he : PE X e ta) (hb : attributeBase e f X.env (eval e X.env) = eval e X.env) : PE X (.Attribute e f pos) (tFldC C f ta) := by
  refine ⟨fun pins s σ H Q I h => attr_of hb (thn (he.run pins s σ H _ I h) fun u s1 ⟨x, H1, I1, rx, a, dx, fs, v, ex, ea, l, q⟩ => ?_)⟩
  subst ex
  cases rx
  exact getattr_ok I1 ea c n l fun u' s2 I2 ru => ⟨v, H1, I2, ru, q⟩
theorem ps_fldC (c : Cls X.K C) (n : NoAttr X.K C f) (ha : PE X o ta) (hv : PE X value tv) (hs : swapsWith value (some (.Attribute o f pos')) pos.line X.env = pure false := by rfl) : PS X (.Assign [.Attribute o f pos'] value pos) (sFldC C f ta tv) := by
  refine ⟨fun pins s σ H D I h => plainObj_wpAny_Assign_Attribute (thn (hv.run pins s σ H _ I h) fun u s1 ⟨y, H1, I1, ry, q⟩ => thn (ha.run pins s1 σ H1 _ I1 q) fun ov s2 ⟨x, H2, I2, rx, a, dx, fs, ex, ea, l, q2⟩ => ?_) hs⟩
  subst ex
  cases rx
  exact setattr_ok I2 ea c n l ry fun s3 I3 => ⟨σ, _, I3, q2⟩
end
section
variable {X : Cx} {CX : CXT} {n : Nat} {C f : Addr} {fd : FuncData} {ps : List Str} {sp : Sp} {E : XK}
def rLenO (C : Addr) (sp : Sp) (E : XK) : List V → Hp → VK → Prop := fun xs H Q => ∃ a dx fs, xs = [V.ref a] ∧ H a = some (.ins C dx fs) ∧ sp [.ref a] H (fun v H' => ∃ k : Nat, v = .int k ∧ k < 2 ^ 62 ∧ Q (.int k) H') E
theorem call_lenO (S : Sm X.K C "__len__" f) (F : FnOk X.prog X.w X.K X.mg X.base CX n f fd ps sp) (hr : Room (n + 1) X.A) (hb : Binds X.K fd ps []) (hx : Passes CX X E) : CallR X (.builtin "len") (rLenO C sp E) := by
  intro pins s σ H xs us Q I r h
  obtain ⟨a, dx, fs, rfl, ha, q⟩ := h
  obtain ⟨u, rfl, ru⟩ := vals1 r
  cases ru
  obtain ⟨mA, J, _⟩ := ins_get I.hok ha
  obtain ⟨od, J, _⟩ := J.look
  obtain ⟨m, hF⟩ := I.fr
  have sb : Sub X n X.A.in1 := Sub.in1 ⟨hr, rfl⟩
  have hl := F.len _ _ _ _ q
  refine PySem.W.len_K hF I.ok.mod.kin J S.at_ S.fn (wpAny_call (codeAny_mono (F.run X.A.in1 X.stack s H ⟨[.ref a], []⟩ [.ref a] [.ref a] _ E sb.room I.env0.in1 (by have := hb s [.ref a] I.kIn (by simpa using hl); simpa using this) (.cons rfl .nil) q) fun r s' hq => ?_))
  rcases r with e | (_ | _ | _ | v)
  · exact hx pins σ H s e s' I hq
  · exact False.elim hq
  · exact False.elim hq
  · exact False.elim hq
  · obtain ⟨w, H', I', rv, k, rfl, hk, q⟩ := I.after hq
    obtain ⟨t, rfl⟩ := rv
    exact ⟨⟨Int.natCast_nonneg _, by have : (k : Int) < 2 ^ 62 := by exact_mod_cast hk
                                     omega⟩, .int k, H', I'.tok _, ⟨_, rfl⟩, q⟩
end
/-- isinstance(x, C), C an own class -/
def rIsC (K : PySem.W.Frag) : List V → Hp → VK → Prop := fun xs H Q => ∃ x C t b, xs = [x, .ref C] ∧ TyOf K H x t ∧ PySem.W.kitOne K t (.ref C) = some b ∧ Q (.bl b) H
theorem call_isC {X : Cx} {K : PySem.W.Frag} (h : X.K = K := by rfl) : CallR X (.builtin "isinstance") (rIsC K) := by
  subst h
  intro pins s σ H xs us Q I r ⟨x, C, t, b, e, ty, k, q⟩
  exact L2.call_isi pins s σ H xs us Q I r ⟨x, .ref C, t, .ref C, b, e, .own C, .base ty, k, q⟩
end WX
namespace K01
open PySem PySem.Spec PyProof.Rows L2 TL HotExc Tw WX
theorem hu64 {k : Nat} {A : Around} (r : Room k A) : A.units + 64 < cLine := by have := r.un; omega
theorem hu8 {k : Nat} {A : Around} (r : Room k A) : A.units + 8 < cLine := by have := r.un; omega
theorem op_eqDK {X : Cx} {K : PySem.W.Frag} (hu : X.A.units + 64 < cLine) (h : X.K = K := by rfl) : OpR X (compareOp .Eq) (rEqD K) := h ▸ op_eqD hu
theorem op_neDK {X : Cx} {K : PySem.W.Frag} (hu : X.A.units + 64 < cLine) (h : X.K = K := by rfl) : OpR X (compareOp .NotEq) (rNeD K) := h ▸ op_neD hu
theorem cr_sortedPK {X : Cx} {K : PySem.W.Frag} (hu : X.A.units + 64 < cLine) (h : X.K = K := by rfl) : CallR X (.builtin "sorted") (rSortedQ K) := h ▸ cr_sortedQ hu
theorem ix_kdictK {X : Cx} {K : PySem.W.Frag} {w : World} (h : X.K = K := by rfl) (hw : X.w = w := by rfl) : IxR X (rIxD K w) := h ▸ hw ▸ ix_kdict
def rSortedT (K : PySem.W.Frag) : List V → Hp → VK → Prop := fun xs H Q => ∃ a, xs = [V.ref a] ∧ ∃ ws : List Str, SqL K H a (ws.map V.str) ∧ ∀ p, H p = none → Q (.ref p) (L2.upd H p (.lst ((sortS ws).map V.str)))
theorem call_sortedTK {X : Cx} {K : PySem.W.Frag} (hu : X.A.units + 64 < cLine) (h : X.K = K := by rfl) : CallR X (.builtin "sorted") (rSortedT K) := by
  subst h
  intro pins s σ H xs us Q I r h
  obtain ⟨a, rfl, ws, hs, q⟩ := h
  obtain ⟨its, rv, hl, hz⟩ := I.list hs
  obtain ⟨u, rfl, ru⟩ := vals1 r
  cases ru
  have hlen := rv.length
  have key : ∀ {ws : List Str} {its : List Value}, Vals (ws.map V.str) its → PySem.W.EachIs (fun (u : Value) (x : Str) => ∃ t, u = .str x t) its ws := by
    intro ws
    induction ws with
    | nil =>
      intro its r
      cases r
      exact .nil
    | cons x ws ih =>
      intro its r
      cases r with
      | cons r1 r2 => exact .cons r1 (ih r2)
  have back : ∀ {out : List Value} {ws : List Str}, PySem.W.EachIs (fun (u : Value) (x : Str) => ∃ t, u = .str x t) out ws → Vals (ws.map V.str) out := by
    intro out ws e
    induction e with
    | nil => exact .nil
    | cons h _ ih => exact .cons h ih
  have e0 := key rv
  refine PySem.W.sorted_data (enc := fun x : Str => PyData.str x) hl.isList e0 (e0.mono fun u x ⟨t, e⟩ => e ▸ ⟨_, Reads.str x t⟩) (PySem.W.AllAlike.of fun b b' => by simp [PySem.W.alike]) (PySem.W.Sortable.others fun b => ⟨(fun z => nomatch z), fun xs z => nomatch z⟩) (by rw [List.length_map] at hz; exact hz) (fun b _ => ?_) fun out ho eo => ?_
  · have : (PyData.str b).depth = 0 := by simp [PyData.depth]
    omega
  · rw [dataLe_S] at eo
    obtain ⟨ep, he⟩ := PyProof.Rows.sortedAll_at s.heap its out.toArray
    refine ⟨.ref _, L2.upd H (s.heap.objs.size + 1) (.lst ((sortS ws).map V.str)), I.laid (t' := s.toks) (fun _ _ => PyProof.Rows.sortedAll_old) (Nat.le_succ _) ⟨?_, out, ep, back eo, he⟩, rfl, q _ (I.hok.fresh (Nat.le_succ _))⟩
    rw [List.length_map, (sortS_pm ws).length_eq, ← List.length_map (f := V.str)]
    exact hz
theorem or_sinKP {X : Cx} {P : Program} {w : World} (hP : X.prog = P := by rfl) (hw : X.w = w := by rfl) : OpR X (compareOp .In) (rSInK P w false) := hP ▸ hw ▸ or_sinK
theorem or_snotinKP {X : Cx} {P : Program} {w : World} (hP : X.prog = P := by rfl) (hw : X.w = w := by rfl) : OpR X (compareOp .NotIn) (rSInK P w true) := hP ▸ hw ▸ or_snotinK
theorem cr_set0KP {X : Cx} {P : Program} {w : World} (hP : X.prog = P := by rfl) (hw : X.w = w := by rfl) : CallR X (.type "set") (rSet0K P w) := hP ▸ hw ▸ cr_set0K
theorem cr_set0TP {X : Cx} {P : Program} {w : World} (hP : X.prog = P := by rfl) (hw : X.w = w := by rfl) : CallR X (.type "set") (rSet0T P w) := hP ▸ hw ▸ cr_set0T
theorem or_noTP {X : Cx} {P : Program} {w : World} (hu : X.A.units + 8 < cLine) (hP : X.prog = P := by rfl) (hw : X.w = w := by rfl) : OpR X (compareOp .In) (rNoT P w false) := hP ▸ hw ▸ or_noT hu
theorem pe_saddKP {X : Cx} {P : Program} {w : World} {o e : Expr} {to : TE} {t : TA} {apos cpos : Pos} (ho : PE X o to) (ha : PA X [e] t) (hP : X.prog = P := by rfl) (hw : X.w = w := by rfl) (hbase : attributeBase o "add" X.env (eval o X.env) = eval o X.env := by rfl)
    (hfew : ((backTo cpos (starEach [e] X.env)).all (fun x => !x.1) && (backToKw cpos (keywordEach [] X.env)).all (fun x => x.1.isSome) && decide ([e].length + ([] : List Keyword).length + (if ([] : List Keyword).isEmpty then 0 else 1) < 30)) = true := by rfl)
    (hline : (apos.endLine == cpos.line) = true := by rfl) (hs : starEach [e] X.env = (false, eval e X.env) :: starEach [] X.env := by rfl) (hpl : (backTo cpos (starEach [] X.env)).any (·.1) = false := by rfl) :
    PE X (.Call (.Attribute o "add" apos) [e] [] cpos) (tSAddK P w to t) := by
  subst hP hw
  exact pe_saddK ho ha hbase hfew hline hs hpl
theorem pe_addTP {X : Cx} {P : Program} {w : World} {o e : Expr} {to : TE} {t : TA} {apos cpos : Pos} (hu : X.A.units + 8 < cLine) (ho : PE X o to) (ha : PA X [e] t) (hP : X.prog = P := by rfl) (hw : X.w = w := by rfl) (hbase : attributeBase o "add" X.env (eval o X.env) = eval o X.env := by rfl)
    (hfew : ((backTo cpos (starEach [e] X.env)).all (fun x => !x.1) && (backToKw cpos (keywordEach [] X.env)).all (fun x => x.1.isSome) && decide ([e].length + ([] : List Keyword).length + (if ([] : List Keyword).isEmpty then 0 else 1) < 30)) = true := by rfl)
    (hline : (apos.endLine == cpos.line) = true := by rfl) (hs : starEach [e] X.env = (false, eval e X.env) :: starEach [] X.env := by rfl) (hpl : (backTo cpos (starEach [] X.env)).any (·.1) = false := by rfl) :
    PE X (.Call (.Attribute o "add" apos) [e] [] cpos) (tAddT P w to t) := by
  subst hP hw
  exact pe_addT hu ho ha hbase hfew hline hs hpl
theorem pg_tupK {X : Cx} {K : PySem.W.Frag} {es : List Expr} {k : Nat} {pos : Pos} {t : TGs} {n : Nat} (hc : X.calm = true) (h : PGs X es t) (hn : (assignEach es X.env).length = n := by rfl) (hst : (assignEach es X.env).findIdx? (·.1) = none := by rfl) (hk : X.K = K := by rfl) : PG X (.Tuple es k pos) (gTup K n t) := hk ▸ pg_tup hc h hn hst
theorem pi_ownK {X : Cx} {K : PySem.W.Frag} {CX : CXT} {n : Nat} {C f : Addr} {fd : FuncData} {ps : List Str} {E : XK} {R : Addr → Addr → Hp → Prop} {tg e : Expr} {te : TE} (S : Sm K C "__iter__" f) (F : FnOkS X.prog X.w K X.mg X.base CX n f fd ps (spIter K R)) (hr : Room n X.A) (hb : Binds K fd ps []) (hx : Passes CX X E) (he : PE X e te) (h : X.K = K := by rfl) : PI X tg e (iOwn C K R te) := by
  subst h
  exact pi_own S F hr hb hx he
theorem pi_zipOK {X : Cx} {K : PySem.W.Frag} {CX : CXT} {n : Nat} {C f : Addr} {fd : FuncData} {ps : List Str} {E : XK} {R : Addr → Addr → Hp → Prop} {e e2 : Expr} {ta : TA} {p pos tpos : Pos} {elts : List Expr} {kk : Nat} (S : Sm K C "__iter__" f) (F : FnOkS X.prog X.w K X.mg X.base CX n f fd ps (spIter K R)) (hr : Room (n + 3) X.A) (hb : Binds K fd ps []) (hx : Passes CX X E)
    (hg : Gl X "zip") (hm : X.mg "zip" = none) (ha : PA X [e, e2] ta) (h : X.K = K := by rfl) (hs : starEach [e, e2] X.env = (false, eval e X.env) :: starEach [e2] X.env := by rfl) (hpl : (backTo pos (starEach [e2] X.env)).any (·.1) = false := by rfl) :
    PI X (.Tuple elts kk tpos) (.Call (.Name "zip" p) [e, e2] [] pos) (iZipO C K R ta) := by
  subst h
  exact pi_zipO S F hr hb hx hg hm ha hs hpl
theorem op_eqOK {X : Cx} {K : PySem.W.Frag} {CX : CXT} {n : Nat} {C f : Addr} {fd : FuncData} {ps : List Str} {sp : Sp} {E : XK} (S : Sm K C "__eq__" f) (F : FnOk X.prog X.w K X.mg X.base CX n f fd ps sp) (hr : Room n X.A) (hb : Binds K fd ps []) (hx : Passes CX X E) (ns : PySem.W.notFirst K C (.type "str") = true) (ni : PySem.W.notFirst K C (.type "int") = true) (h : X.K = K := by rfl) : OpR X (compareOp .Eq) (rOwnC K C sp E fun c => c) := by
  subst h
  exact op_eqO S F hr hb hx ns ni
theorem op_neOK {X : Cx} {K : PySem.W.Frag} {CX : CXT} {n : Nat} {C f : Addr} {fd : FuncData} {ps : List Str} {sp : Sp} {E : XK} (N : NeC K C) (S : Sm K C "__eq__" f) (F : FnOk X.prog X.w K X.mg X.base CX n f fd ps sp) (hr : Room (n + 1) X.A) (hb : Binds K fd ps []) (hx : Passes CX X E) (h : X.K = K := by rfl) : OpR X (compareOp .NotEq) (rOwnC K C sp E fun c => !c) := by
  subst h
  exact op_neO N S F hr hb hx
/-! ### for x in a tuple -/
theorem pi_tupK {X : Cx} {K : PySem.W.Frag} {tg l : Expr} {tl : TE} (hl : PE X l tl) (h : X.K = K := by rfl) : PI X tg l (iTup K tl) := h ▸ pi_tup hl
def LoopT (K : PySem.W.Frag) (a : Addr) (g : TG) (tb : TS) (D : Ends) (σ : L2.St) (H : Hp) : Prop := ∃ W : Nat → Nat → L2.St → Hp → Prop, (∃ m, W 0 m σ H) ∧ ∀ i m σ H, W i m σ H →
  ((Itt K a).stop i H ∧ D.nx σ H) ∨ ((Itt K a).go i H ∧ ∃ N : L2.St → Hp → Prop, (∀ σ' H', N σ' H' → ∃ m', m' < m ∧ W (i + 1) m' σ' H') ∧ ∀ x H', (Itt K a).yld i H x H' → g x σ H' fun σ2 H2 => tb { D with nx := N, ct := N, bk := D.nx } σ2 H2)
theorem forT_eq {K : PySem.W.Frag} {te : TE} {g : TG} {tb : TS} {D : Ends} {σ : L2.St} {H : Hp} : tFor (iTup K te) g tb D σ H = te σ H (fun v H1 => ∃ a, v = V.ref a ∧ ∃ xs, SqT K H1 a xs ∧ LoopT K a g tb D σ H1) := by
  show te σ H _ = te σ H _
  congr 1
  funext v H1
  exact propext ⟨fun ⟨a, e, ⟨xs, h⟩, q⟩ => ⟨a, e, xs, h, q⟩, fun ⟨a, e, xs, h, q⟩ => ⟨a, e, ⟨xs, h⟩, q⟩⟩
theorem r_tup {K : PySem.W.Frag} {a : Addr} (xs : List V) {g : TG} {tb : TS} {D : Ends} {σ : L2.St} {H : Hp} (Pv : Nat → L2.St → Hp → Prop) (h0 : Pv 0 σ H) (hl : ∀ i σ H, i ≤ xs.length → Pv i σ H → SqT K H a xs)
    (hs : ∀ i x σ H, xs[i]? = some x → Pv i σ H → ∀ N : L2.St → Hp → Prop, (∀ σ H, Pv (i + 1) σ H → N σ H) → g x σ H fun σ2 H2 => tb { D with nx := N, ct := N, bk := D.nx } σ2 H2) (hd : ∀ σ H, Pv xs.length σ H → D.nx σ H) : LoopT K a g tb D σ H :=
  for_tup Pv h0 hl (fun i x σ H hi hp => hs i x σ H hi hp _ (fun _ _ h => h)) hd
/-! ### dict comprehensions, folded -/
def DcJ (J : It) (g : TG) (tk tv : TE) (vs : List Nat) (σ : L2.St) (H1 : Hp) (D : Addr) (Q : Hp → Prop) : Prop := ∃ W : Nat → Nat → Hp → Prop, (∃ m, W 0 m (L2.upd H1 D (.dK []))) ∧ ∀ i m G, W i m G →
  (J.stop i G ∧ Q G) ∨ (J.go i G ∧ ∃ Nx : Hp → Prop, (∀ G', Nx G' → ∃ m', m' < m ∧ W (i + 1) m' G') ∧ ∀ x G', J.yld i G x G' → g x (wipe σ vs) G' fun ω G2 => wipe ω vs = wipe σ vs ∧ tYes ω G2 fun b G3 =>
    if b = true then tk ω G3 fun y G4 => tv ω G4 fun z G5 => ∃ kvs k, y = kV k ∧ G5 D = some (.dK kvs) ∧ kvs.length < sizeLine ∧ Nx (L2.upd G5 D (.dK (putK kvs k z))) else Nx G3)
theorem dcL_eq {K : PySem.W.Frag} {tl tk tv : TE} {g : TG} {vs : List Nat} {σ : L2.St} {H : Hp} {Q : VK} : tDc (iList K tl) g tYes tk tv vs σ H Q = tl σ H (fun v H1 => ∃ a, v = V.ref a ∧ ∃ xs, SqL K H1 a xs ∧ ∀ D, H1 D = none → DcJ (Itl K a) g tk tv vs σ H1 D (Q (.ref D))) := by
  show tl σ H _ = tl σ H _
  congr 1
  funext v H1
  exact propext ⟨fun ⟨a, e, ⟨xs, h⟩, q⟩ => ⟨a, e, xs, h, q⟩, fun ⟨a, e, xs, h, q⟩ => ⟨a, e, ⟨xs, h⟩, q⟩⟩
theorem dcZ_eq {C : Addr} {K : PySem.W.Frag} {R : Addr → Addr → Hp → Prop} {ta : TA} {tk tv : TE} {g : TG} {vs : List Nat} {σ : L2.St} {H : Hp} {Q : VK} : tDc (iZipO C K R ta) g tYes tk tv vs σ H Q =
    ta σ H (fun us H1 => ∃ a dx fs l zs x, us = [.ref a, .str x] ∧ H1 a = some (.ins C dx fs) ∧ R a l H1 ∧ SqL K H1 l zs ∧ (∃ o, H1 l = some o) ∧ ∀ D, H1 D = none → DcJ (ItzO K l x) g tk tv vs σ H1 D (Q (.ref D))) := rfl
theorem lcO_eq {C : Addr} {K : PySem.W.Frag} {R : Addr → Addr → Hp → Prop} {tl te : TE} {g : TG} {tt : TT} {vs : List Nat} {σ : L2.St} {H : Hp} {Q : VK} : tLc (iOwn C K R tl) g tt te vs σ H Q =
    tl σ H (fun v H1 => ∃ a dx fs l zs, v = .ref a ∧ H1 a = some (.ins C dx fs) ∧ R a l H1 ∧ SqL K H1 l zs ∧ ∀ D, H1 D = none → LcT (Itl K l) g tt te vs σ H1 D (Q (.ref D))) := rfl
section
variable {tk tv : TE} {vs : List Nat} {σ : L2.St} {H1 : Hp} {D : Addr} {Qd : Hp → Prop}
theorem r_dcL {K : PySem.W.Frag} {a : Addr} {j : Nat} (xs : List V) (Pv : Nat → Hp → Prop) (hw : ∀ x, wipe ((wipe σ vs).set j (some x)) vs = wipe σ vs) (h0 : Pv 0 (L2.upd H1 D (.dK []))) (hl : ∀ i H, i ≤ xs.length → Pv i H → SqL K H a xs)
    (hs : ∀ i x H, xs[i]? = some x → Pv i H → ∀ (N : V → VK), (∀ k z H5 kvs, H5 D = some (.dK kvs) → kvs.length < sizeLine → Pv (i + 1) (L2.upd H5 D (.dK (putK kvs k z))) → N (kV k) z H5) → tk ((wipe σ vs).set j (some x)) H fun y H4 => tv ((wipe σ vs).set j (some x)) H4 (N y))
    (hd : ∀ H, Pv xs.length H → Qd H) : DcJ (Itl K a) (gName j) tk tv vs σ H1 D Qd := by
  refine ⟨fun i m H => m = xs.length - i ∧ i ≤ xs.length ∧ Pv i H, ⟨_, rfl, Nat.zero_le _, h0⟩, ?_⟩
  rintro i m H ⟨rfl, hi, p⟩
  have q := hl i H hi p
  by_cases hlt : i < xs.length
  · refine .inr ⟨⟨xs, xs[i], q, List.getElem?_eq_getElem hlt⟩, Pv (i + 1), fun H' p' => ⟨xs.length - (i + 1), by omega, rfl, hlt, p'⟩, fun x H' y => ?_⟩
    obtain ⟨e, y⟩ := y
    subst e
    refine ⟨hw x, ?_⟩
    simp only [tYes, if_pos]
    exact hs i x _ (y xs q) p (fun y z H5 => ∃ kvs k, y = kV k ∧ H5 D = some (.dK kvs) ∧ kvs.length < sizeLine ∧ Pv (i + 1) (L2.upd H5 D (.dK (putK kvs k z)))) fun k z H5 kvs h1 h2 h3 => ⟨kvs, k, rfl, h1, h2, h3⟩
  · have e : i = xs.length := by omega
    subst e
    exact .inl ⟨⟨xs, q, Nat.le_refl _⟩, hd H p⟩
theorem r_dcZ {K : PySem.W.Frag} {l : Addr} {j1 j2 : Nat} (xs : List V) (z : Str) (hlen : xs.length = z.cps.toList.length) (Pv : Nat → Hp → Prop) (hw : ∀ x y, wipe (((wipe σ vs).set j1 (some x)).set j2 (some y)) vs = wipe σ vs) (h0 : Pv 0 (L2.upd H1 D (.dK []))) (hl : ∀ i H, i ≤ xs.length → Pv i H → SqL K H l xs)
    (hp : ∀ i H t x y, Pv i H → H t = none → Pv i (L2.upd H t (.tup [x, y])))
    (hs : ∀ i x c H, xs[i]? = some x → z.cps.toList[i]? = some c → Pv i H → ∀ (N : V → VK), (∀ k u H5 kvs, H5 D = some (.dK kvs) → kvs.length < sizeLine → Pv (i + 1) (L2.upd H5 D (.dK (putK kvs k u))) → N (kV k) u H5) → tk (((wipe σ vs).set j1 (some x)).set j2 (some (.str ⟨#[c]⟩))) H fun y H4 => tv (((wipe σ vs).set j1 (some x)).set j2 (some (.str ⟨#[c]⟩))) H4 (N y))
    (hd : ∀ H, Pv xs.length H → Qd H) : DcJ (ItzO K l z) (gTup K 2 (gCons (gName j1) (gCons (gName j2) gNil))) tk tv vs σ H1 D Qd := by
  have hz : z.cps.toList.length = z.cps.size := Array.length_toList
  refine ⟨fun i m H => m = xs.length - i ∧ i ≤ xs.length ∧ Pv i H, ⟨_, rfl, Nat.zero_le _, h0⟩, ?_⟩
  rintro i m H ⟨rfl, hi, p⟩
  have q := hl i H hi p
  by_cases hlt : i < xs.length
  · refine .inr ⟨⟨xs, xs[i], q, List.getElem?_eq_getElem hlt, by omega⟩, Pv (i + 1), fun H' p' => ⟨xs.length - (i + 1), by omega, rfl, hlt, p'⟩, fun x H' y => ?_⟩
    obtain ⟨T, a, c, rfl, hT, rfl, h1, h2⟩ := y
    refine ⟨T, [a, .str ⟨#[c]⟩], rfl, .inl (.inl upd_same), rfl, a, [.str ⟨#[c]⟩], rfl, _, [], rfl, rfl, hw _ _, ?_⟩
    simp only [tYes, if_pos]
    exact hs i a c _ (h1 xs q) (by rw [Array.getElem?_toList]; exact h2) (hp i H T _ _ p hT) (fun y z H5 => ∃ kvs k, y = kV k ∧ H5 D = some (.dK kvs) ∧ kvs.length < sizeLine ∧ Pv (i + 1) (L2.upd H5 D (.dK (putK kvs k z)))) fun k z H5 kvs h1 h2 h3 => ⟨kvs, k, rfl, h1, h2, h3⟩
  · have e : i = xs.length := by omega
    subst e
    exact .inl ⟨⟨xs, q, rfl, by omega⟩, hd H p⟩
end
/-! ### for i, c in enumerate(text) -/
def LoopE (z : Str) (g : TG) (tb : TS) (D : Ends) (σ : L2.St) (H : Hp) : Prop := ∃ W : Nat → Nat → L2.St → Hp → Prop, (∃ m, W 0 m σ H) ∧ ∀ i m σ H, W i m σ H →
  ((IteS z).stop i H ∧ D.nx σ H) ∨ ((IteS z).go i H ∧ ∃ N : L2.St → Hp → Prop, (∀ σ' H', N σ' H' → ∃ m', m' < m ∧ W (i + 1) m' σ' H') ∧ ∀ x H', (IteS z).yld i H x H' → g x σ H' fun σ2 H2 => tb { D with nx := N, ct := N, bk := D.nx } σ2 H2)
theorem forE_eq {ta : TA} {g : TG} {tb : TS} {D : Ends} {σ : L2.St} {H : Hp} : tFor (iEnumS ta) g tb D σ H = ta σ H (fun vs H1 => ∃ z, vs = [V.str z] ∧ LoopE z g tb D σ H1) := rfl
theorem r_enumS {K : PySem.W.Frag} {j1 j2 : Nat} (z : Str) {tb : TS} {D : Ends} {σ : L2.St} {H : Hp} (Pv : Nat → L2.St → Hp → Prop) (h0 : Pv 0 σ H) (hp : ∀ i σ H t x y, Pv i σ H → H t = none → Pv i σ (L2.upd H t (.tup [x, y])))
    (hs : ∀ i c σ H, z.cps.toList[i]? = some c → Pv i σ H → ∀ N : L2.St → Hp → Prop, (∀ σ H, Pv (i + 1) σ H → N σ H) → tb { D with nx := N, ct := N, bk := D.nx } ((σ.set j1 (some (.int (i : Nat)))).set j2 (some (.str ⟨#[c]⟩))) H) (hd : ∀ σ H, Pv z.cps.toList.length σ H → D.nx σ H) :
    LoopE z (gTup K 2 (gCons (gName j1) (gCons (gName j2) gNil))) tb D σ H := by
  have hz : z.cps.toList.length = z.cps.size := Array.length_toList
  refine ⟨fun i m σ H => m = z.cps.toList.length - i ∧ i ≤ z.cps.toList.length ∧ Pv i σ H, ⟨_, rfl, Nat.zero_le _, h0⟩, ?_⟩
  rintro i m σ H ⟨rfl, hi, p⟩
  by_cases hlt : i < z.cps.toList.length
  · refine .inr ⟨by show i < z.cps.size; omega, Pv (i + 1), fun σ' H' p' => ⟨z.cps.toList.length - (i + 1), by omega, rfl, hlt, p'⟩, fun x H' y => ?_⟩
    obtain ⟨T, c, rfl, hT, rfl, h2⟩ := y
    exact ⟨T, [.int (i : Nat), .str ⟨#[c]⟩], rfl, .inl (.inl upd_same), rfl, _, [.str ⟨#[c]⟩], rfl, _, [], rfl, rfl, hs i c σ _ (by rw [Array.getElem?_toList]; exact h2) (hp i σ H T _ _ p hT) _ fun _ _ h => h⟩
  · have e : i = z.cps.toList.length := by omega
    subst e
    exact .inl ⟨by show z.cps.toList.length = z.cps.size; omega, hd σ H p⟩
end K01
namespace K01
open PySem PySem.Spec PyProof.Rows L2 TL HotExc Tw
local macro_rules | `(tactic| walk_at "rd") => `(tactic| simp only [start1, wipe, isR, isBool, isInt, isStr, isLst, isTup, tAsg, gName, gSub, tVar, tC, tOp, tUn, tTest, tIfS, tRet, tRetN, tDrop, tB, tAnd, tOr, tNot, tAndV, tOrV, tNotV, tIf, tCB, tCons, tNil, tNext, tCall, tBM, tTup, tLst, rU, rInW, rNinW, Int.reduceNeg, tG, tG2, sP, tDisp, tPairs, tCallS, tCallSD, tCallT, StX.tStar, tCallK, tCallKS, rTupOf, tDrop, rI0, rI, rEq, rNe, scal, forR_eq, forR2_eq, forS_eq, forL_eq, lcT_eq, lcRT_eq, lcS_eq, rLenX, rLenS, rListOf, tRevL, rMulS, rRepL, rCatL, rSumN, rMaxN, tBM0, rPop, tAug, ipI,  tPart, tNoPart, CwR.tReplC, rAllK, rInSg, rNinSg, sgn_inj, rAddS, rInSt, tChain, tM1, tM0, rSplitN, rJoinN, exists_eq, rIntI, rIntB, rIntS, rStrI, rAbs, rOrd, rMin, rMax, rIxL, rIxX, rSetL, rAppend, rIxS, rSlS, rSlL, tSl, List.map_cons, List.map_nil, List.replicate_succ, List.replicate_zero, List.length_cons, List.length_nil, Nat.reduceSub, Nat.reduceAdd, Nat.zero_add, Nat.sub_self, List.getElem?_cons_zero, List.getElem?_cons_succ, List.set_cons_zero, List.set_cons_succ, List.append_nil, List.nil_append, List.cons_append, Option.some.injEq, not_true_eq_false, reduceCtorEq, exists_eq_left', exists_eq_left, exists_eq', exists_and_left, exists_and_right, V.int.injEq, V.str.injEq, V.bl.injEq, V.ref.injEq, List.cons.injEq, and_true, true_and, and_assoc, decide_eq_true_eq, Bool.not_eq_true', decide_eq_false_iff_not, ite_true, ite_false, if_true, if_false, Bool.not_true, Bool.not_false, Bool.false_eq_true, eq_self_iff_true, reduceIte, ne_eq, Int.reduceEq, not_false_eq_true])
local macro_rules | `(tactic| walk_at "rt") => `(tactic| try walk_at "rd")
local macro_rules | `(tactic| walk_at "st") => `(tactic| (walk_at "rt"; refine r_seq ?_; walk_at "rt"))
local macro_rules | `(tactic| walk_at "hp") => `(tactic| first | assumption | exact upd_same | (rw [upd_ne (by assumption)]; walk_at "hp"))
local macro_rules | `(tactic| walk_at "ex1") => `(tactic| ((with_reducible refine Exists.intro ?w (And.intro ?hx ?_)); (case hx => first | exact sq_of (by walk_at "hp") | exact .inl (sq_of (by walk_at "hp")) | exact rfl | (show _ = some (HO.lst _); walk_at "hp"))))
local macro_rules | `(tactic| walk_at "ex") => `(tactic| repeat (first | walk_at "ex1" | walk_at "rd"))
abbrev s_name : Stmt := topS 61
theorem sc_name : FnScope ["store", "many", "name", "k"] ["store"] (defScope s_name) := ⟨rfl, rfl, rfl, by decide +kernel, rfl, by decide +kernel, by decide +kernel⟩
abbrev s_shuffled : Stmt := topS 58
theorem sc_shuffled : FnScope ["store", "row", "kind", "left", "mixed", "k", "at"] ["store", "row"] (defScope s_shuffled) := ⟨rfl, rfl, rfl, by decide +kernel, rfl, by decide +kernel, by decide +kernel⟩
theorem letm (c : Nat) : (c ∈ (Str.ofString "abcdefghijklmnopqrstuvwxyz").cps.toList) ↔ low c := by
  have e : (Str.ofString "abcdefghijklmnopqrstuvwxyz").cps.toList = (List.range 26).map (· + 97) := by decide +kernel
  rw [e]
  simp only [List.mem_map, List.mem_range, low]
  exact ⟨fun ⟨a, h, e⟩ => ⟨by omega, by omega⟩, fun h => ⟨c - 97, by omega, by omega⟩⟩
theorem digm (c : Nat) : (c ∈ (Str.ofString "0123456789").cps.toList) ↔ 48 ≤ c ∧ c ≤ 57 := by
  have e : (Str.ofString "0123456789").cps.toList = (List.range 10).map (· + 48) := by decide +kernel
  rw [e]
  simp only [List.mem_map, List.mem_range]
  exact ⟨fun ⟨a, h, e⟩ => ⟨by omega, by omega⟩, fun h => ⟨c - 48, by omega, by omega⟩⟩
theorem lodm (c : Nat) : (c ∈ (Str.ofString "abcdefghijklmnopqrstuvwxyz0123456789").cps.toList) ↔ lod c := by
  have e : (Str.ofString "abcdefghijklmnopqrstuvwxyz0123456789").cps.toList = (List.range 26).map (· + 97) ++ (List.range 10).map (· + 48) := by decide +kernel
  rw [e]
  simp only [List.mem_append, List.mem_map, List.mem_range, lod]
  exact ⟨fun h => h.elim (fun ⟨a, h, e⟩ => .inl ⟨by omega, by omega⟩) fun ⟨a, h, e⟩ => .inr ⟨by omega, by omega⟩, fun h => h.elim (fun h => .inl ⟨c - 97, by omega, by omega⟩) fun h => .inr ⟨c - 48, by omega, by omega⟩⟩
def spNam : Sp := fun vs H Q _ => ∃ (a c : Addr), vs = [.ref a] ∧ StoreAt H a c ∧ Drawn H a c (fun v => ∃ l, v = .str (S l) ∧ nm l) Q
theorem cut_len (z : Str) (lo hi : Option Int) : (cutS z lo hi).length ≤ z.length := by
  rw [len_tl, len_tl z]
  show (List.take _ (List.drop _ (tl z))).length ≤ _
  rw [List.length_take, List.length_drop]
  omega
theorem app_len (x y : Str) : (x ++ y).length = x.length + y.length := by rw [len_tl, tl_append, List.length_append, ← len_tl, ← len_tl]
def shortB (v : V) : Bool := match v with | .str y => decide (y.length ≤ 10) | _ => false
theorem short_all {vs : List V} (h : vs.all shortB = true) {v : V} (hv : v ∈ vs) : ∃ y : Str, v = .str y ∧ y.length ≤ 10 := by
  have := List.all_eq_true.mp h v hv
  cases v with
  | str y => exact ⟨y, rfl, by simpa [shortB] using this⟩
  | _ => cases this
def natB (m : Nat) (v : V) : Bool := match v with | .int i => decide (0 ≤ i ∧ i ≤ m) | _ => false
theorem nat_all {m : Nat} {vs : List V} (h : vs.all (natB m) = true) {v : V} (hv : v ∈ vs) : ∃ n : Nat, v = .int n ∧ n ≤ m := by
  have := List.all_eq_true.mp h v hv
  cases v with
  | int i =>
    have := of_decide_eq_true this
    exact ⟨i.toNat, by rw [Int.toNat_of_nonneg this.1], by omega⟩
  | _ => cases this
def Em (t : TE) : Prop := ∀ (σ : L2.St) (H : Hp) (Q Q' : VK), (∀ v H, Q v H → Q' v H) → t σ H Q → t σ H Q'
def Am (t : TA) : Prop := ∀ (σ : L2.St) (H : Hp) (Q Q' : List V → Hp → Prop), (∀ v H, Q v H → Q' v H) → t σ H Q → t σ H Q'
def Rm (r : R2) : Prop := ∀ (x y : V) (H : Hp) (Q Q' : VK), (∀ v H, Q v H → Q' v H) → r x y H Q → r x y H Q'
def Cm (r : List V → Hp → VK → Prop) : Prop := ∀ (xs : List V) (H : Hp) (Q Q' : VK), (∀ v H, Q v H → Q' v H) → r xs H Q → r xs H Q'
theorem m_var {i : Nat} : Em (tVar i) := fun σ H Q Q' k ⟨v, h, q⟩ => ⟨v, h, k _ _ q⟩
theorem m_c {v : V} : Em (tC v) := fun σ H Q Q' k q => k _ _ q
theorem m_nil : Am tNil := fun σ H Q Q' k q => k _ _ q
theorem m_cons {t : TE} {u : TA} (a : Em t) (b : Am u) : Am (tCons t u) := fun σ H Q Q' k q => a _ _ _ _ (fun v H q => b _ _ _ _ (fun vs H q => k _ _ q) q) q
theorem m_op {r : R2} {t u : TE} (a : Rm r) (b : Em t) (c : Em u) : Em (tOp r t u) := fun σ H Q Q' k q => b _ _ _ _ (fun v H q => c _ _ _ _ (fun v H q => a _ _ _ _ _ k q) q) q
theorem m_cb {r : List V → Hp → VK → Prop} {t : TA} (a : Cm r) (b : Am t) : Em (tCB r t) := fun σ H Q Q' k q => b _ _ _ _ (fun v H q => a _ _ _ _ k q) q
theorem m_lenS : Cm rLenS := fun xs H Q Q' k ⟨z, e, l, q⟩ => ⟨z, e, l, k _ _ q⟩
theorem m_rI {g : Int → Int → V} : Rm (rI0 g) := fun x y H Q Q' k ⟨i, j, e, e2, q⟩ => ⟨i, j, e, e2, k _ _ q⟩
theorem m_rInSg : Rm rInSg := fun x y H Q Q' k ⟨c, e, z, e2, q⟩ => ⟨c, e, z, e2, k _ _ q⟩
theorem m_rIxS : Rm rIxS := fun x y H Q Q' k ⟨z, i, c, e, e2, l, a, q⟩ => ⟨z, i, c, e, e2, l, a, k _ _ q⟩
theorem m_test {t : TE} (a : Em t) : TTm (tTest t) := fun σ H Q Q' k q => a _ _ _ _ (fun v H ⟨b, e, q⟩ => ⟨b, e, k _ _ q⟩) q
theorem m_and {t u : TT} (a : TTm t) (b : TTm u) : TTm (tAnd t u) := fun σ H Q Q' k q => a _ _ _ _ (fun v H q => by
  cases v with
  | true => exact b _ _ _ _ k q
  | false => exact k _ _ q) q
theorem m_or {t u : TT} (a : TTm t) (b : TTm u) : TTm (tOr t u) := fun σ H Q Q' k q => a _ _ _ _ (fun v H q => by
  cases v with
  | true => exact k _ _ q
  | false => exact b _ _ _ _ k q) q
/-- a list in another order, new -/
def spShuf (K : PySem.W.Frag) : Sp := fun vs H Q _ => ∃ (a c p : Addr) (xs : List V), vs = [.ref a, .ref p] ∧ StoreAt H a c ∧ H p = some (.lst xs) ∧ p ≠ a ∧ xs.length ≤ 1000 ∧
  ∀ (q : Addr) (ys : List V) (H' : Hp), StoreAt H' a c → But a H H' → H q = none → H' q = some (.lst ys) → ys.Perm xs → Q (.ref q) H'
section
variable {P : Program} {w : World} {K : PySem.W.Frag} {mg : Str → Option Value} {base : Heap}
theorem ok_name {f f_number f_pick : Addr} {fd fd_number fd_pick : FuncData} (B : Bi mg) (D : Dn K mg "_law_name" s_name ["store"] f fd)
    (D_number : Dn K mg "_law_number" s_number ["store", "low", "high"] f_number fd_number) (D_pick : Dn K mg "_law_pick" s_pick ["store", "row"] f_pick fd_pick)
    (G_number : FnOk P w K mg base CX0 4 f_number fd_number ["store", "low", "high"] spRange) (G_pick : FnOk P w K mg base CX0 3 f_pick fd_pick ["store", "row"] spPick) : FnOk P w K mg base CX0 5 f fd ["store"] spNam := by
  refine D.F.ok sc_name (fun vs H Q E h => ?_) (fun cdv A outer s H vs Q E hr h => ?_)
  · obtain ⟨a, c, rfl, _⟩ := h
    rfl
  · obtain ⟨a, c, rfl, S0, q⟩ := h
    refine ⟨_, (pss_cons (ps_set (i := 1) sc_name.nd rfl (.inl rfl) (pe_call G_number (hr.mono (by omega)) (by rfl) D_number.g D_number.F.kp D_number.b .nil pass0 (pa_cons (pv 0) (pa_cons pe_int (pa_cons pe_int pa_nil)))))
      (pss_cons (ps_set (i := 2) sc_name.nd rfl (.inl rfl) (pe_call G_pick (hr.mono (by omega)) (by rfl) D_pick.g D_pick.F.kp D_pick.b .nil pass0 (pa_cons (pv 0) (pa_cons pe_str pa_nil))))
      (pss_cons (ps_for PassesOwn.never rfl (pi_range1 (by rfl) B.range (pa_cons (pe_op op_sub (pv 1) pe_int) pa_nil)) (pg_name (i := 3) sc_name.nd rfl (.inl rfl)) (pss_one (ps_set (i := 2) sc_name.nd rfl (.inl rfl) (pe_op op_addS (pv 2) (pe_call G_pick (hr.mono (by omega)) (by rfl) D_pick.g D_pick.F.kp D_pick.b .nil pass0 (pa_cons (pv 0) (pa_cons pe_str pa_nil)))))))
      (pss_one (ps_ret (pv 2)))))), ?_⟩
    walk_at "st"
    refine ⟨a, c, 1, 6, rfl, S0, by decide, by decide, fun v H1 S1 b1 ⟨many, e, m0, m1⟩ => ?_⟩
    subst e
    walk_at "st"
    refine ⟨a, c, _, rfl, S1, by decide +kernel, by decide +kernel, fun v H2 S2 b2 ⟨k, hk, e⟩ => ?_⟩
    subst e
    have hk := (letm k).mp hk
    walk_at "st"
    refine ⟨by omega, by omega, ?_⟩
    refine r_range (fun i σ H' => (∃ (l : List Nat) (y : Option V), σ = [some (.ref a), some (.int many), some (.str (S l)), y] ∧ ∃ r, l = k :: r ∧ r.length = i ∧ ∀ x ∈ r, lod x) ∧ StoreAt H' a c ∧ But a H H')
      ⟨⟨[k], _, rfl, [], rfl, rfl, fun _ h => by cases h⟩, S2, b1.trans b2⟩ ?_ ?_
    · rintro i σ H3 hi ⟨⟨l, y, rfl, r, rfl, hr1, hr2⟩, S3, b3⟩ N kk
      walk_at "rt"
      refine ⟨a, c, _, rfl, S3, by decide +kernel, by decide +kernel, fun v H4 S4 b4 ⟨k', hk', e⟩ => ?_⟩
      subst e
      have hk' := (lodm k').mp hk'
      walk_at "rt"
      refine ⟨?_, kk _ _ ⟨⟨(k :: r) ++ [k'], _, by rw [← S_app]; rfl, r ++ [k'], rfl, by rw [List.length_append, hr1]; rfl, fun x hx => ?_⟩, S4, b3.trans b4⟩⟩
      · rw [S_len]
        show (k :: r).length + 1 ≤ _
        exact line_of (by rw [List.length_cons]; omega)
      · rcases List.mem_append.mp hx with hx | hx
        · exact hr2 x hx
        · rw [List.mem_singleton.mp hx]; exact hk'
    · rintro σ H3 ⟨⟨l, y, rfl, r, rfl, hr1, hr2⟩, S3, b3⟩
      walk_at "rt"
      exact q _ _ S3 b3 ⟨_, rfl, hk, by omega, hr2⟩
theorem ok_shuffled {f f_take : Addr} {fd fd_take : FuncData} (B : Bi mg) (D : Dn K mg "_law_shuffled" s_shuffled ["store", "row"] f fd) (D_take : Dn K mg "_law_take" s_take ["store", "many"] f_take fd_take)
    (G_take : FnOk P w K mg base CX0 2 f_take fd_take ["store", "many"] spTake) : FnOk P w K mg base CX0 3 f fd ["store", "row"] (spShuf K) := by
  refine D.F.ok sc_shuffled (fun vs H Q E h => ?_) (fun cdv A outer s H vs Q E hr h => ?_)
  · obtain ⟨a, c, p, xs, rfl, _⟩ := h
    rfl
  · obtain ⟨a, c, p, xs, rfl, S, hp, hpa, hl, q⟩ := h
    refine ⟨_, (pss_cons (ps_set (i := 2) sc_shuffled.nd rfl (.inl rfl) (pe_call G_take (hr.mono (by omega)) (by rfl) D_take.g D_take.F.kp D_take.b .nil pass0 (pa_cons (pv 0) (pa_cons pe_int pa_nil))))
      (pss_cons (ps_if (pt_cmpR op_eq (pv 2) pe_int (nomark _)) (pss_one (ps_ret (pe_callTy (call_listK (K := K)) (by rfl) B.list_ (by decide +kernel) (pa_cons (pv 1) pa_nil)))) pss_nil)
      (pss_cons (ps_if (pt_cmpR op_eq (pv 2) pe_int (nomark _)) (pss_one (ps_ret (pe_revLK (K := K) (pe_callTy (call_listK (K := K)) (by rfl) B.list_ (by decide +kernel) (pa_cons (pv 1) pa_nil))))) pss_nil)
      (pss_cons (ps_set (i := 3) sc_shuffled.nd rfl (.inl rfl) (pe_callTy (call_listK (K := K)) (by rfl) B.list_ (by decide +kernel) (pa_cons (pv 1) pa_nil)))
      (pss_cons (ps_set (i := 4) sc_shuffled.nd rfl (.inl rfl) (pe_lst pa_nil))
      (pss_cons (ps_for PassesOwn.never rfl (pi_range1 (by rfl) B.range (pa_cons (pe_callB (call_lenXK (K := K)) (by rfl) B.len PySem.boot_len (pa_cons (pv 1) pa_nil)) pa_nil)) (pg_name (i := 5) sc_shuffled.nd rfl (.inl rfl)) (pss_cons (ps_set (i := 6) sc_shuffled.nd rfl (.inl rfl) (pe_call G_take (hr.mono (by omega)) (by rfl) D_take.g D_take.F.kp D_take.b .nil pass0 (pa_cons (pv 0) (pa_cons (pe_callB (call_lenXK (K := K)) (by rfl) B.len PySem.boot_len (pa_cons (pv 3) pa_nil)) pa_nil))))
      (pss_cons (ps_expr (pe_bm PySem.F.plainAttrs_list PySem.F.slot_list_append PySem.F.type_list_append mt_append (pv 4) (pa_cons (pe_ix (ix_listK (K := K)) (pv 3) (pv 6) (fun _ _ => rfl)) pa_nil)))
      (pss_one (ps_set (i := 3) sc_shuffled.nd rfl (.inl rfl) (pe_op op_catL (pe_slice (sl_listK (K := K)) (pv 3) po_none (po_some (pv 6))) (pe_slice (sl_listK (K := K)) (pv 3) (po_some (pe_op op_add (pv 6) pe_int)) po_none)))))))
      (pss_one (ps_ret (pv 4))))))))), ?_⟩
    walk_at "st"
    refine ⟨a, c, _, rfl, S, by decide, fun v H1 S1 b1 ⟨r, e, r0, r1⟩ => ?_⟩
    subst e
    have hp1 := b1 p _ hpa hp
    walk_at "st"
    refine ite2 (fun _ => ⟨_, .inl (sq_of hp1), fun l nl => q l xs _ (S1.new nl) (b1.putNew (b1.free S1 nl)) (b1.free S1 nl) upd_same (List.Perm.refl _)⟩) (fun _ => ?_)
    walk_at "st"
    refine ite2 (fun _ => ⟨_, .inl (sq_of hp1), fun l nl => ?_⟩) (fun _ => ?_)
    · refine ⟨xs, sq_of upd_same, fun l2 nl2 => ?_⟩
      have nl3 : H1 l2 = none := (Same.new nl).free nl2
      exact q l2 xs.reverse _ ((S1.new nl).new nl2) ((b1.putNew (b1.free S1 nl)).putNew (b1.free S1 nl3)) (b1.free S1 nl3) upd_same (List.reverse_perm xs)
    walk_at "st"
    refine ⟨_, .inl (sq_of hp1), fun l nl => ?_⟩
    have npl : p ≠ l := ne_of_none hp1 nl
    walk_at "st"
    refine ⟨by decide, fun m nm => ?_⟩
    have hl2 : (L2.upd H1 l (.lst xs)) l = some (.lst xs) := upd_same
    have nlm : l ≠ m := ne_of_none hl2 nm
    have nm1 : H1 m = none := (Same.new nl).free nm
    have npm : p ≠ m := ne_of_none hp1 nm1
    have ma := S1.ne1 nm1
    have mc := S1.ne2 nm1
    walk_at "st"
    refine ⟨_, .inl (sq_of (by rw [upd_ne npm, upd_ne npl]; exact hp1)), by omega, by omega, ?_⟩
    refine r_range (fun i σ H' => (∃ (l : Addr) (x y : Option V), σ = [some (.ref a), some (.ref p), some (.int r), some (.ref l), some (.ref m), x, y] ∧ l ≠ a ∧ l ≠ m ∧ StoreAt H' a c ∧ But a H1 H' ∧ ∃ ls ms : List V, ms.length = i ∧ H' l = some (.lst ls) ∧ H' m = some (.lst ms) ∧ (ms ++ ls).Perm xs))
      ⟨l, _, _, rfl, S1.ne1 nl, nlm, (S1.new nl).new nm, (But.new nl).putNew nm1, xs, [], rfl, by rw [upd_ne nlm]; exact hl2, upd_same, List.Perm.refl _⟩ ?_ ?_
    · rintro i σ H2 hi ⟨l, x, y, rfl, la, lm, S2, b2, ls, ms, hms, hls, hmm, hpm⟩ N k
      have hpl := hpm.length_eq
      rw [List.length_append] at hpl
      walk_at "st"
      refine ⟨_, .inl (sq_of hls), ?_⟩
      refine ⟨a, c, _, rfl, S2, by omega, fun v H3 S3 b3 ⟨t, e, t0, t1⟩ => ?_⟩
      subst e
      have hls3 := b3 l _ la hls
      have hmm3 := b3 m _ ma hmm
      obtain ⟨kk, hk, hk2⟩ := atI_get (xs := ls) (i := t) t0 (by omega)
      have hkl := lt_of_get hk2
      obtain ⟨tn, rfl⟩ : ∃ tn : Nat, t = (tn : Int) := ⟨t.toNat, by omega⟩
      rw [Int.toNat_natCast] at hk2 hkl
      walk_at "st"
      refine ⟨.inl ⟨rfl, _, sq_of hmm3⟩, _, sq_of hls3, _, hk, _, hmm3, size_ok (by omega), ?_⟩
      have hls4 : (L2.upd H3 m (.lst (ms ++ [kk]))) l = some (.lst ls) := by rw [upd_ne lm]; exact hls3
      have S4 : StoreAt (L2.upd H3 m (.lst (ms ++ [kk]))) a c := S3.put ma mc
      have b4 : But a H1 (L2.upd H3 m (.lst (ms ++ [kk]))) := (b2.trans b3).putNew nm1
      have hm4 : (L2.upd H3 m (.lst (ms ++ [kk]))) m = some (.lst (ms ++ [kk])) := upd_same
      generalize L2.upd H3 m (.lst (ms ++ [kk])) = H4 at hls4 S4 b4 hm4
      walk_at "rt"
      have ex1 : ((tn : Int) + 1) = ((tn + 1 : Nat) : Int) := by omega
      refine ⟨_, sq_of hls4, fun q1 nq1 => ?_⟩
      have hls5 : (L2.upd H4 q1 (.lst (cutV ls none (some (tn : Int))))) l = some (.lst ls) := by rw [upd_ne (ne_of_none hls4 nq1)]; exact hls4
      refine ⟨_, sq_of hls5, fun q2 nq2 => ?_⟩
      have n12 : q1 ≠ q2 := ne_of_none (upd_same (H := H4) (a := q1) (o := .lst (cutV ls none (some (tn : Int))))) nq2
      refine ⟨_, by rw [upd_ne n12]; exact upd_same, _, upd_same, ?_, fun q3 nq3 => ?_⟩
      · rw [cut_to (by omega), ex1, cut_from (by omega), List.length_take, List.length_drop]
        exact line_of (by omega)
      have s45 : Same H4 (L2.upd (L2.upd H4 q1 (.lst (cutV ls none (some (tn : Int))))) q2 (.lst (cutV ls (some ((tn : Int) + 1)) none))) := (Same.new nq1).trans (Same.new nq2)
      have nq34 : H4 q3 = none := s45.free nq3
      have hm3 : m ≠ q3 := ne_of_none hm4 nq34
      refine k _ _ ⟨q3, _, _, rfl, S4.ne1 nq34, hm3.symm, ((S4.new nq1).new nq2).new nq3, ((b4.trans (But.of s45)).putNew (b4.free S4 nq34)), cutV ls none (some (tn : Int)) ++ cutV ls (some ((tn : Int) + 1)) none, ms ++ [kk], by rw [List.length_append, hms]; rfl, upd_same, by rw [upd_ne hm3]; exact s45 _ _ hm4, ?_⟩
      rw [cut_to (by omega), ex1, cut_from (by omega), List.append_assoc]
      exact ((perm_pick hk2).append_left ms).trans hpm
    · rintro σ H2 ⟨l, x, y, rfl, la, lm, S2, b2, ls, ms, hms, hls, hmm, hpm⟩
      have hpl := hpm.length_eq
      rw [List.length_append] at hpl
      have e : ls = [] := List.length_eq_zero_iff.mp (by omega)
      subst e
      rw [List.append_nil] at hpm
      walk_at "rt"
      exact q m ms H2 S2 (b1.trans b2) (b1.free S1 nm1) hmm hpm
theorem ok_size {f f_take : Addr} {fd fd_take : FuncData} (B : Bi mg) (D : Dn K mg "_law_size" s_size ["store", "low", "high"] f fd) (D_take : Dn K mg "_law_take" s_take ["store", "many"] f_take fd_take)
    (G_take : FnOk P w K mg base CX0 2 f_take fd_take ["store", "many"] spTake) : FnOk P w K mg base CX0 3 f fd ["store", "low", "high"] spRange := by
  refine D.F.ok sc_size (fun vs H Q E h => ?_) (fun cdv A outer s H vs Q E hr h => ?_)
  · obtain ⟨a, c, lo, hi, rfl, _⟩ := h
    rfl
  · obtain ⟨a, c, lo, hi, rfl, S, hlh, hw, q⟩ := h
    refine ⟨_, (pss_cons (ps_set (i := 3) sc_size.nd rfl (.inl rfl) (pe_call G_take (hr.mono (by omega)) (by rfl) D_take.g D_take.F.kp D_take.b .nil pass0 (pa_cons (pv 0) (pa_cons pe_int pa_nil))))
      (pss_cons (ps_if (pt_cmpR op_lt (pv 3) pe_int (nomark _)) (pss_one (ps_ret (pv 1))) pss_nil)
      (pss_cons (ps_if (pt_cmpR op_eq (pv 3) pe_int (nomark _)) (pss_one (ps_ret (pv 2))) pss_nil)
      (pss_cons (ps_if (pt_cmpR op_lt (pv 3) pe_int (nomark _)) (pss_one (ps_ret (pe_op op_add (pv 1) (pe_call G_take (hr.mono (by omega)) (by rfl) D_take.g D_take.F.kp D_take.b .nil pass0 (pa_cons (pv 0) (pa_cons (pe_op op_add (pe_op op_sub (pv 2) (pv 1)) pe_int) pa_nil)))))) pss_nil)
      (pss_one (ps_ret (pe_op op_add (pv 1) (pe_call G_take (hr.mono (by omega)) (by rfl) D_take.g D_take.F.kp D_take.b .nil pass0 (pa_cons (pv 0) (pa_cons (pe_op op_add (pe_callB (call_minI rfl) (by rfl) B.min (by decide +kernel) (pa_cons (pe_op op_sub (pv 2) (pv 1)) (pa_cons pe_int pa_nil))) pe_int) pa_nil)))))))))), ?_⟩
    walk_at "st"
    refine ⟨a, c, _, rfl, S, by decide, fun v H1 S1 b1 ⟨r, e, r0, r1⟩ => ?_⟩
    subst e
    walk_at "st"
    refine ite2 (fun _ => q _ _ S1 b1 ⟨_, rfl, by omega, by omega⟩) (fun _ => ?_)
    walk_at "st"
    refine ite2 (fun _ => q _ _ S1 b1 ⟨_, rfl, by omega, by omega⟩) (fun _ => ?_)
    walk_at "st"
    refine ite2 (fun _ => ?_) (fun _ => ?_)
    · refine ⟨a, c, _, rfl, S1, by omega, fun v H2 S2 b2 ⟨k, e, k0, k1⟩ => ?_⟩
      subst e
      walk_at "rt"
      exact q _ _ S2 (b1.trans b2) ⟨_, rfl, by omega, by omega⟩
    · walk_at "rt"
      refine ⟨a, c, _, rfl, S1, by split <;> omega, fun v H2 S2 b2 ⟨k, e, k0, k1⟩ => ?_⟩
      subst e
      walk_at "rt"
      exact q _ _ S2 (b1.trans b2) ⟨_, rfl, by omega, by split at k1 <;> omega⟩
end
end K01
namespace K01
open PySem PySem.Spec PyProof.Rows L2 TL HotExc Tw WX
local macro_rules | `(tactic| walk_at "rd") => `(tactic| simp only [start1, wipe, isR, isBool, isInt, isStr, isLst, isTup, tAsg, gName, gSub, tVar, tC, tOp, tUn, tTest, tIfS, tRet, tRetN, tDrop, tB, tAnd, tOr, tNot, tAndV, tOrV, tNotV, tIf, tCB, tCons, tNil, tNext, tCall, tBM, tTup, tLst, rU, rInW, rNinW, Int.reduceNeg, tG, tG2, sP, tFldC, sFldC, tProp, tMeth, tMake, rOwnC, rLenO, rIsC, rNoT, tAddT, tSAddK, rSAddK, rSInK, rSet0K, rSet0T, rMinS, rMaxS, rSortedQ, rSortedT, rEqD, rNeD, rIxD, dcL_eq, dcZ_eq, lcO_eq, forE_eq, forT_eq, lcS_eq, ItX.rIterN, iOwn, List.append_nil, tDisp, tPairs, tCallS, tCallSD, tCallT, StX.tStar, tCallK, tCallKS, rTupOf, tDrop, rI0, rI, rEq, rNe, scal, forR_eq, forR2_eq, forS_eq, forL_eq, lcT_eq, lcRT_eq, lcS_eq, rLenX, rLenS, rListOf, tRevL, rMulS, rRepL, rCatL, rSumN, rMaxN, tBM0, rPop, tAug, ipI,  tPart, tNoPart, CwR.tReplC, rAllK, rInSg, rNinSg, sgn_inj, rAddS, rInSt, tChain, tM1, tM0, rSplitN, rJoinN, exists_eq, rIntI, rIntB, rIntS, rStrI, rAbs, rOrd, rMin, rMax, rIxL, rIxX, rSetL, rAppend, rIxS, rSlS, rSlL, tSl, List.map_cons, List.map_nil, List.replicate_succ, List.replicate_zero, List.length_cons, List.length_nil, Nat.reduceSub, Nat.reduceAdd, Nat.zero_add, Nat.sub_self, List.getElem?_cons_zero, List.getElem?_cons_succ, List.set_cons_zero, List.set_cons_succ, List.append_nil, List.nil_append, List.cons_append, Option.some.injEq, not_true_eq_false, reduceCtorEq, exists_eq_left', exists_eq_left, exists_eq', exists_and_left, exists_and_right, V.int.injEq, V.str.injEq, V.bl.injEq, V.ref.injEq, List.cons.injEq, and_true, true_and, and_assoc, decide_eq_true_eq, Bool.not_eq_true', decide_eq_false_iff_not, ite_true, ite_false, if_true, if_false, Bool.not_true, Bool.not_false, Bool.false_eq_true, eq_self_iff_true, reduceIte, ne_eq, Int.reduceEq, not_false_eq_true])
local macro_rules | `(tactic| walk_at "rt") => `(tactic| try walk_at "rd")
local macro_rules | `(tactic| walk_at "st") => `(tactic| (walk_at "rt"; refine r_seq ?_; walk_at "rt"))
local macro_rules | `(tactic| walk_at "hp") => `(tactic| first | assumption | exact upd_same | (rw [upd_ne (by assumption)]; walk_at "hp"))
local macro_rules | `(tactic| walk_at "ex1") => `(tactic| ((with_reducible refine Exists.intro ?w (And.intro ?hx ?_)); (case hx => first | exact sq_of (by walk_at "hp") | exact .inl (sq_of (by walk_at "hp")) | exact rfl | (show _ = some (HO.lst _); walk_at "hp"))))
local macro_rules | `(tactic| walk_at "ex") => `(tactic| repeat (first | walk_at "ex1" | walk_at "rd"))
abbrev s_isname : Stmt := topS 36
theorem sc_isname : FnScope ["text", "letter"] ["text"] (defScope s_isname) := ⟨rfl, rfl, rfl, by decide +kernel, rfl, by decide +kernel, by decide +kernel⟩
abbrev s_orderedpair : Stmt := topS 39
theorem sc_orderedpair : FnScope ["one", "two"] ["one", "two"] (defScope s_orderedpair) := ⟨rfl, rfl, rfl, by decide +kernel, rfl, by decide +kernel, by decide +kernel⟩
abbrev s_checkplaces : Stmt := topS 41
theorem sc_checkplaces : FnScope ["places", "place"] ["places"] (defScope s_checkplaces) := ⟨rfl, rfl, rfl, by decide +kernel, rfl, by decide +kernel, by decide +kernel⟩
abbrev s_checkties : Stmt := topS 42
theorem sc_checkties : FnScope ["places", "ties", "pair", "place", "one", "two"] ["places", "ties"] (defScope s_checkties) := ⟨rfl, rfl, rfl, by decide +kernel, rfl, by decide +kernel, by decide +kernel⟩
/-- a text that is a place name -/
def Nam (x : Str) : Prop := nm (tl x)
def ordP (e : Str × Str) : Str × Str := if e.1.cps.toList < e.2.cps.toList then (e.1, e.2) else (e.2, e.1)
/-- what places and ties must be -/
structure Fit (Ps : List Str) (E : List (Str × Str)) : Prop where
  ne : Ps ≠ []
  p20 : Ps.length ≤ 20
  pnd : Ps.Nodup
  nam : ∀ x ∈ Ps, Nam x
  e60 : E.length ≤ 60
  inP : ∀ e ∈ E, e.1 ∈ Ps ∧ e.2 ∈ Ps
  dif : ∀ e ∈ E, e.1 ≠ e.2
  end' : (E.map ordP).Nodup
def spIsN : Sp := fun vs H Q _ => ∃ z : Str, vs = [.str z] ∧ Nam z ∧ ∀ H', Keeps H H' → Q (.bl true) H'
def spOrd : Sp := fun vs H Q _ => ∃ x y : Str, vs = [.str x, .str y] ∧ ∀ p, H p = none → Q (.ref p) (L2.upd H p (.tup [.str (ordP (x, y)).1, .str (ordP (x, y)).2]))
def spCkP : Sp := fun vs H Q _ => ∃ (p : Addr) (Ps : List Str), vs = [.ref p] ∧ H p = some (.lst (Ps.map V.str)) ∧ Ps ≠ [] ∧ Ps.length ≤ 20 ∧ (∀ x ∈ Ps, Nam x) ∧ ∀ H', Keeps H H' → Q .non H'
/-- places and ties as they are handed in -/
def Args (H : Hp) (p t : Addr) (Ps : List Str) (E : List (Str × Str)) : Prop := H p = some (.lst (Ps.map V.str)) ∧ ∃ vs, H t = some (.lst vs) ∧ PT H E vs
theorem Args.keep {H H' : Hp} {p t : Addr} {Ps : List Str} {E : List (Str × Str)} (h : Args H p t Ps E) (k : Keeps H H') : Args H' p t Ps E := ⟨k _ _ h.1, let ⟨vs, h1, h2⟩ := h.2; ⟨vs, k _ _ h1, h2.keep fun t xs e => k _ _ e⟩⟩
def spCkT : Sp := fun vs H Q _ => ∃ (p t : Addr) (Ps : List Str) (E : List (Str × Str)), vs = [.ref p, .ref t] ∧ Args H p t Ps E ∧ Fit Ps E ∧ ∀ H', Keeps H H' → Q .non H'
theorem tup_at {K : PySem.W.Frag} {H : Hp} {t : Addr} {xs : List V} (h : H t = some (.tup xs)) : SqT K H t xs := .inl (.inl h)
theorem get_map {α β : Type} {l : List α} {f : α → β} {i : Nat} {y : β} (h : (l.map f)[i]? = some y) : ∃ x, l[i]? = some x ∧ y = f x := by
  rw [List.getElem?_map] at h
  cases e : l[i]? with
  | none => rw [e] at h; cases h
  | some x => rw [e] at h; exact ⟨x, rfl, (Option.some.inj h).symm⟩
section
variable {P : Program} {w : World} {K : PySem.W.Frag} {mg : Str → Option Value} {base : Heap}
theorem ok_isname2 {f : Addr} {fd : FuncData} (B : Bi mg) {t1 t2 t3 : Tok} (D : Dn K mg "is_name" s_isname ["text"] f fd) (gc_LONGEST_NAME : mg "LONGEST_NAME" = some (.int 6 t1))
    (gc_LETTERS : mg "LETTERS" = some (.str (Str.ofString "abcdefghijklmnopqrstuvwxyz") t2)) (gc_DIGITS : mg "DIGITS" = some (.str (Str.ofString "0123456789") t3)) : FnOk P w K mg base CX0 1 f fd ["text"] spIsN := by
  refine D.F.ok sc_isname (fun vs H Q E h => ?_) (fun cdv A outer s H vs Q E hr h => ?_)
  · obtain ⟨z, rfl, _⟩ := h
    rfl
  · obtain ⟨z, rfl, hz, q⟩ := h
    refine ⟨_, (pss_cons (ps_if (PW.pt (pw_or (pt_not (pt_chain op_le op_le pe_int (pe_callB call_lenS (by rfl) B.len PySem.boot_len (pa_cons (pv 0) pa_nil)) (pe_glob (v := .int 6) (by rfl) gc_LONGEST_NAME ⟨_, rfl⟩))) (pw_or1 (pt_cmpR op_ninSg (pe_ix ix_str (pv 0) pe_int (fun _ _ => rfl)) (pe_glob (v := .str (Str.ofString "abcdefghijklmnopqrstuvwxyz")) (by rfl) gc_LETTERS ⟨_, rfl⟩) (by rfl))))) (pss_one (ps_ret pe_bl)) pss_nil)
      (pss_one (ps_ret (pe_callB (call_allK (K := K)) (by rfl) B.all (by decide +kernel) (pa_cons (pe_lc (own := [("letter", 1)]) (g := gName 1) (tt := tYes) (by rfl) sc_isname.nd (pi_str (pv 0)) (blkOk_by (own := [("letter", 1)]) (N := ["text", "letter"]) (sc := defScope s_isname) (by decide +kernel)) (fun _ _ _ _ _ => pg_name (i := 1) sc_isname.nd rfl (Or.inl rfl)) (fun _ _ _ _ _ => pts_nil) (fun _ _ _ _ _ => (pe_or (pe_cmpR op_inSg (pv 1) (pe_glob (v := .str (Str.ofString "abcdefghijklmnopqrstuvwxyz")) (by rfl) gc_LETTERS ⟨_, rfl⟩) (by rfl)) (pe_one (pe_cmpR op_inSg (pv 1) (pe_glob (v := .str (Str.ofString "0123456789")) (by rfl) gc_DIGITS ⟨_, rfl⟩) (by rfl)))))) pa_nil))))), ?_⟩
    walk_at "st"
    have hlen : z.length = (tl z).length := len_tl z
    obtain ⟨c, r, hc⟩ : ∃ c r, tl z = c :: r := by
      cases h : tl z with
      | nil => exact absurd h (nm_ne hz)
      | cons c r => exact ⟨c, r, rfl⟩
    have hz' : nm (c :: r) := hc ▸ hz
    obtain ⟨z1, z2, z3⟩ := hz'
    have hl2 : (tl z).length = r.length + 1 := by rw [hc]; rfl
    refine ⟨line_of (by omega), ite2 (fun h1 => ite2 (fun h6 => absurd h6 (by omega)) (fun h6 => ?_)) (fun h1 => absurd h1 (by omega))⟩
    refine ⟨line_of (by omega), c, by show atI (tl z) ((0 : Nat) : Int) = _; rw [hc]; exact atI_nat rfl, ite2 (fun hl => absurd ((letm c).mpr z1) hl) (fun hl => ?_)⟩
    intro D nD
    refine r_lcS z (fun i H' => H' D = some (.lst ((List.replicate i true).map V.bl)) ∧ Keeps H H') (fun x => rfl) ⟨upd_same, Keeps.new nD⟩ ?_ ?_
    · rintro i d H2 hd ⟨hD, kp⟩ N k
      walk_at "rt"
      have hd : (tl z)[i]? = some d := hd
      have hi := lt_of_get hd
      have hld : lod d := nm_mem hz (List.mem_of_getElem? hd)
      have key : N (V.bl true) H2 := k _ _ _ hD (size_ok (by rw [List.length_map, List.length_replicate]; omega)) ⟨by rw [upd_same, List.replicate_succ', List.map_append]; rfl, kp.put nD⟩
      refine ite2 (fun h => key) (fun h => ?_)
      rw [letm] at h
      have : (48 ≤ d ∧ d ≤ 57) := hld.elim (fun z => absurd z h) id
      rw [show (decide (d ∈ (Str.ofString "0123456789").cps.toList)) = true from decide_eq_true ((digm d).mpr this)]
      exact key
    · rintro H2 ⟨hD, kp⟩
      refine ⟨_, sq_of hD, ?_⟩
      rw [show (List.replicate z.cps.toList.length true).all id = true by simp]
      exact q H2 kp
theorem ok_ord {f : Addr} {fd : FuncData} (D : Dn K mg "ordered_pair" s_orderedpair ["one", "two"] f fd) : FnOk P w K mg base CX0 1 f fd ["one", "two"] spOrd := by
  refine D.F.ok sc_orderedpair (fun vs H Q E h => ?_) (fun cdv A outer s H vs Q E hr h => ?_)
  · obtain ⟨x, y, rfl, _⟩ := h
    rfl
  · obtain ⟨x, y, rfl, q⟩ := h
    refine ⟨_, (pss_cons (ps_if (pt_cmpR op_lt_str (pv 0) (pv 1) (nomark _)) (pss_one (ps_ret (pe_tup (pa_cons (pv 0) (pa_cons (pv 1) pa_nil))))) pss_nil)
      (pss_one (ps_ret (pe_tup (pa_cons (pv 1) (pa_cons (pv 0) pa_nil)))))), ?_⟩
    walk_at "st"
    refine ite2 (fun h => ⟨line_of (by decide), fun p hp => ?_⟩) (fun h => ⟨line_of (by decide), fun p hp => ?_⟩)
    · have := q p hp
      simp only [ordP, if_pos h] at this
      exact this
    · have := q p hp
      simp only [ordP, if_neg h] at this
      exact this
theorem ok_ckp {f f_isname : Addr} {fd fd_isname : FuncData} (B : Bi mg) (D : Dn K mg "check_places" s_checkplaces ["places"] f fd) (D_isname : Dn K mg "is_name" s_isname ["text"] f_isname fd_isname) (G_isname : FnOk P w K mg base CX0 1 f_isname fd_isname ["text"] spIsN) : FnOk P w K mg base CX0 2 f fd ["places"] spCkP := by
  refine D.F.ok sc_checkplaces (fun vs H Q E h => ?_) (fun cdv A outer s H vs Q E hr h => ?_)
  · obtain ⟨p, Ps, rfl, _⟩ := h
    rfl
  · obtain ⟨p, Ps, rfl, hp, hne, h20, hn, q⟩ := h
    refine ⟨_, (pss_cons (ps_if (pt_cmpR op_eq (pe_callB (call_lenXK (K := K)) (by rfl) B.len PySem.boot_len (pa_cons (pv 0) pa_nil)) pe_int (nomark _)) (pss_one ps_never) pss_nil)
      (pss_one (ps_for PassesOwn.never rfl (pi_listK (K := K) (pv 0)) (pg_name (i := 1) sc_checkplaces.nd rfl (.inl rfl)) (pss_one (ps_if (pt_not (pt_val (pe_call G_isname (hr.mono (by omega)) (by rfl) D_isname.g D_isname.F.kp D_isname.b .nil pass0 (pa_cons (pv 1) pa_nil)))) (pss_one ps_never) pss_nil))))), ?_⟩
    walk_at "st"
    have hpos := List.length_pos_iff.mpr hne
    refine ⟨_, .inl (sq_of hp), ite2 (fun h => absurd h (by rw [List.length_map]; omega)) (fun _ => ⟨⟨_, sq_of hp⟩, ?_⟩)⟩
    refine r_list (Ps.map V.str) (fun i σ H' => (∃ x, σ = [some (.ref p), x]) ∧ Keeps H H') ⟨⟨_, rfl⟩, Keeps.refl H⟩ (fun i σ H' _ h => sq_of (h.2 _ _ hp)) ?_ ?_
    · rintro i v σ H' hx ⟨⟨x, rfl⟩, k⟩ N kk
      obtain ⟨z, hz, rfl⟩ := get_map hx
      walk_at "rt"
      exact ⟨z, rfl, hn z (List.mem_of_getElem? hz), fun H2 k2 => ⟨_, rfl, ite2 (fun h => absurd h (by decide)) (fun _ => kk _ _ ⟨⟨_, rfl⟩, k.trans k2⟩)⟩⟩
    · rintro σ H' ⟨⟨x, rfl⟩, k⟩
      exact q H' k
theorem ok_ckt {f : Addr} {fd : FuncData} (B : Bi mg) {t1 t2 : Tok} (D : Dn K mg "check_ties" s_checkties ["places", "ties"] f fd) (gc_MOST_PLACES : mg "MOST_PLACES" = some (.int 20 t1)) (gc_MOST_TIES : mg "MOST_TIES" = some (.int 60 t2)) : FnOk P w K mg base CX0 2 f fd ["places", "ties"] spCkT := by
  refine D.F.ok sc_checkties (fun vs H Q E h => ?_) (fun cdv A outer s H vs Q E hr h => ?_)
  · obtain ⟨p, t, Ps, E', rfl, _⟩ := h
    rfl
  · obtain ⟨p, t, Ps, E', rfl, ⟨hp, vs, ht, hpt⟩, F, q⟩ := h
    refine ⟨_, (pss_cons (ps_if (pt_cmpR op_gt (pe_callB (call_lenXK (K := K)) (by rfl) B.len PySem.boot_len (pa_cons (pv 0) pa_nil)) (pe_glob (v := .int 20) (by rfl) gc_MOST_PLACES ⟨_, rfl⟩) (nomark _)) (pss_one ps_never) pss_nil)
      (pss_cons (ps_if (pt_cmpR op_gt (pe_callB (call_lenXK (K := K)) (by rfl) B.len PySem.boot_len (pa_cons (pv 1) pa_nil)) (pe_glob (v := .int 60) (by rfl) gc_MOST_TIES ⟨_, rfl⟩) (nomark _)) (pss_one ps_never) pss_nil)
      (pss_cons (ps_for PassesOwn.never rfl (pi_listK (K := K) (pv 1)) (pg_name (i := 2) sc_checkties.nd rfl (.inl rfl)) (pss_one (ps_for PassesOwn.never rfl (pi_tupK (K := K) (pv 2)) (pg_name (i := 3) sc_checkties.nd rfl (.inl rfl)) (pss_one (ps_if (pt_cmpR (op_ninW (K := K)) (pv 3) (pv 0) (by rfl)) (pss_one ps_never) pss_nil)))))
      (pss_one (ps_for PassesOwn.never rfl (pi_listK (K := K) (pv 1)) (pg_tupK (K := K) (n := 2) (by rfl) (pgs_cons (pg_name (i := 4) sc_checkties.nd rfl (.inl rfl)) (pgs_cons (pg_name (i := 5) sc_checkties.nd rfl (.inl rfl)) pgs_nil))) (pss_one (ps_if (pt_cmpR op_eq (pv 4) (pv 5) (nomark _)) (pss_one ps_never) pss_nil))))))), ?_⟩
    walk_at "st"
    have h20 := F.p20
    have h60 := F.e60
    refine ⟨_, .inl (sq_of hp), ite2 (fun h => absurd h (by rw [List.length_map]; omega)) (fun _ => ?_)⟩
    walk_at "st"
    refine ⟨_, .inl (sq_of ht), ite2 (fun h => absurd h (by rw [hpt.1]; omega)) (fun _ => ?_)⟩
    walk_at "st"
    refine ⟨⟨_, sq_of ht⟩, ?_⟩
    refine r_list vs (fun i σ H' => (∃ a b c d, σ = [some (.ref p), some (.ref t), a, b, c, d]) ∧ H' = H) ⟨⟨_, _, _, _, rfl⟩, rfl⟩ (fun i σ H' _ h => h.2 ▸ sq_of ht) ?_ ?_
    · rintro i v σ H' hx ⟨⟨a, b, c, d, rfl⟩, rfl⟩ N kk
      have hi : i < E'.length := by have := lt_of_get hx; have := hpt.1; omega
      obtain ⟨u, rfl, hu⟩ := hpt.2 i _ v (List.getElem?_eq_getElem hi) hx
      have hm := F.inP _ (List.getElem_mem hi)
      walk_at "rt"
      refine ⟨⟨_, tup_at hu⟩, ?_⟩
      refine r_tup [.str E'[i].1, .str E'[i].2] (fun i σ H2 => (∃ b c d, σ = [some (.ref p), some (.ref t), some (.ref u), b, c, d]) ∧ H2 = H') ⟨⟨_, _, _, rfl⟩, rfl⟩ (fun j σ H2 _ h => h.2 ▸ tup_at hu) ?_ ?_
      · rintro j v σ H2 hv ⟨⟨b, c, d, rfl⟩, rfl⟩ N2 kk2
        have : ∃ z : Str, v = .str z ∧ z ∈ Ps := by
          have := List.mem_of_getElem? hv
          simp only [List.mem_cons, List.not_mem_nil, or_false] at this
          rcases this with e | e
          · exact ⟨_, e, hm.1⟩
          · exact ⟨_, e, hm.2⟩
        obtain ⟨z, rfl, hz⟩ := this
        walk_at "rt"
        refine ⟨_, .inl (sq_of hp), ?_⟩
        exact ite2 (fun h => absurd hz h) (fun _ => kk2 _ _ ⟨⟨_, _, _, rfl⟩, rfl⟩)
      · rintro σ H2 ⟨⟨b, c, d, rfl⟩, rfl⟩
        exact kk _ _ ⟨⟨_, _, _, _, rfl⟩, rfl⟩
    · rintro σ H' ⟨⟨a, b, c, d, rfl⟩, rfl⟩
      walk_at "rt"
      refine ⟨⟨_, sq_of ht⟩, ?_⟩
      refine r_list vs (fun i σ H2 => (∃ a b c d, σ = [some (.ref p), some (.ref t), a, b, c, d]) ∧ H2 = H') ⟨⟨_, _, _, _, rfl⟩, rfl⟩ (fun i σ H2 _ h => h.2 ▸ sq_of ht) ?_ ?_
      · rintro i v σ H2 hx ⟨⟨a, b, c, d, rfl⟩, rfl⟩ N kk
        have hi : i < E'.length := by have := lt_of_get hx; have := hpt.1; omega
        obtain ⟨u, rfl, hu⟩ := hpt.2 i _ v (List.getElem?_eq_getElem hi) hx
        have hd := F.dif _ (List.getElem_mem hi)
        refine ⟨u, _, rfl, tup_at hu, rfl, _, _, rfl, _, _, rfl, rfl, ?_⟩
        walk_at "rt"
        exact ite2 (fun h => absurd h hd) (fun _ => kk _ _ ⟨⟨_, _, _, _, rfl⟩, rfl⟩)
      · rintro σ H2 ⟨⟨a, b, c, d, rfl⟩, rfl⟩
        exact q _ (Keeps.refl _)
end
end K01
namespace K01
open PySem PySem.Spec PyProof.Rows L2 TL HotExc Tw WX
local macro_rules | `(tactic| walk_at "rd") => `(tactic| simp only [start1, wipe, isR, isBool, isInt, isStr, isLst, isTup, tAsg, gName, gSub, tVar, tC, tOp, tUn, tTest, tIfS, tRet, tRetN, tDrop, tB, tAnd, tOr, tNot, tAndV, tOrV, tNotV, tIf, tCB, tCons, tNil, tNext, tCall, tBM, tTup, tLst, rU, rInW, rNinW, Int.reduceNeg, tG, tG2, sP, tFldC, sFldC, tProp, tMeth, tMake, rOwnC, rLenO, rIsC, rNoT, tAddT, tSAddK, rSAddK, rSInK, rSet0K, rSet0T, rMinS, rMaxS, rSortedQ, rSortedT, rEqD, rNeD, rIxD, dcL_eq, dcZ_eq, lcO_eq, forE_eq, forT_eq, lcS_eq, ItX.rIterN, iOwn, List.append_nil, tDisp, tPairs, tCallS, tCallSD, tCallT, StX.tStar, tCallK, tCallKS, rTupOf, tDrop, rI0, rI, rEq, rNe, scal, forR_eq, forR2_eq, forS_eq, forL_eq, lcT_eq, lcRT_eq, lcS_eq, rLenX, rLenS, rListOf, tRevL, rMulS, rRepL, rCatL, rSumN, rMaxN, tBM0, rPop, tAug, ipI,  tPart, tNoPart, CwR.tReplC, rAllK, rInSg, rNinSg, sgn_inj, rAddS, rInSt, tChain, tM1, tM0, rSplitN, rJoinN, exists_eq, rIntI, rIntB, rIntS, rStrI, rAbs, rOrd, rMin, rMax, rIxL, rIxX, rSetL, rAppend, rIxS, rSlS, rSlL, tSl, List.map_cons, List.map_nil, List.replicate_succ, List.replicate_zero, List.length_cons, List.length_nil, Nat.reduceSub, Nat.reduceAdd, Nat.zero_add, Nat.sub_self, List.getElem?_cons_zero, List.getElem?_cons_succ, List.set_cons_zero, List.set_cons_succ, List.append_nil, List.nil_append, List.cons_append, Option.some.injEq, not_true_eq_false, reduceCtorEq, exists_eq_left', exists_eq_left, exists_eq', exists_and_left, exists_and_right, V.int.injEq, V.str.injEq, V.bl.injEq, V.ref.injEq, List.cons.injEq, and_true, true_and, and_assoc, decide_eq_true_eq, Bool.not_eq_true', decide_eq_false_iff_not, ite_true, ite_false, if_true, if_false, Bool.not_true, Bool.not_false, Bool.false_eq_true, eq_self_iff_true, reduceIte, ne_eq, Int.reduceEq, not_false_eq_true])
local macro_rules | `(tactic| walk_at "rt") => `(tactic| try walk_at "rd")
local macro_rules | `(tactic| walk_at "st") => `(tactic| (walk_at "rt"; refine r_seq ?_; walk_at "rt"))
local macro_rules | `(tactic| walk_at "hp") => `(tactic| first | assumption | exact upd_same | (rw [upd_ne (by assumption)]; walk_at "hp"))
local macro_rules | `(tactic| walk_at "ex1") => `(tactic| ((with_reducible refine Exists.intro ?w (And.intro ?hx ?_)); (case hx => first | exact sq_of (by walk_at "hp") | exact .inl (sq_of (by walk_at "hp")) | exact rfl | (show _ = some (HO.lst _); walk_at "hp"))))
local macro_rules | `(tactic| walk_at "ex") => `(tactic| repeat (first | walk_at "ex1" | walk_at "rd"))
abbrev s_checkrepeats : Stmt := topS 43
theorem sc_checkrepeats : FnScope ["places", "ties", "names", "place", "pairs", "one", "two", "pair"] ["places", "ties"] (defScope s_checkrepeats) := ⟨rfl, rfl, rfl, by decide +kernel, rfl, by decide +kernel, by decide +kernel⟩

theorem keep_tup {H H' : Hp} {t : Addr} {xs : List V} {o : HO} {a : Addr} (k : ∀ b o, b ≠ a → H b = some o → H' b = some o) (ha : H a = some o) (ho : ∀ ys, o ≠ .tup ys) (ht : H t = some (.tup xs)) : H' t = some (.tup xs) :=
  k t _ (fun z => by rw [z, ha] at ht; exact ho xs (Option.some.inj ht)) ht
theorem take_new {α : Type} {l : List α} {i : Nat} {z : α} (nd : l.Nodup) (h : l[i]? = some z) : z ∉ l.take i := fun hm => by
  rw [← List.take_append_drop i l] at nd
  refine (List.nodup_append.mp nd).2.2 z hm z (List.mem_of_getElem? (i := 0) ?_) rfl
  rw [List.getElem?_drop]
  exact h
theorem take_snoc {α : Type} {l : List α} {i : Nat} {x : α} (h : l[i]? = some x) : l.take (i + 1) = l.take i ++ [x] := by rw [List.take_add_one, h]; rfl
def kp (e : Str × Str) : List Key := [Sum.inr e.1, Sum.inr e.2]
theorem kp_inj {e g : Str × Str} (h : kp e = kp g) : e = g := by
  unfold kp at h
  simp only [List.cons.injEq, Sum.inr.injEq, and_true] at h
  exact Prod.ext h.1 h.2
section
variable {P : Program} {w : World} {K : PySem.W.Frag} {mg : Str → Option Value} {base : Heap}
theorem ok_ckr {f f_orderedpair : Addr} {fd fd_orderedpair : FuncData} (B : Bi mg) (B_set : mg "set" = none) (D : Dn K mg "check_repeats" s_checkrepeats ["places", "ties"] f fd) (D_orderedpair : Dn K mg "ordered_pair" s_orderedpair ["one", "two"] f_orderedpair fd_orderedpair) (G_orderedpair : FnOk P w K mg base CX0 1 f_orderedpair fd_orderedpair ["one", "two"] spOrd) : FnOk P w K mg base CX0 2 f fd ["places", "ties"] spCkT := by
  refine D.F.ok sc_checkrepeats (fun vs H Q E h => ?_) (fun cdv A outer s H vs Q E hr h => ?_)
  · obtain ⟨p, t, Ps, E', rfl, _⟩ := h
    rfl
  · obtain ⟨p, t, Ps, E', rfl, ⟨hp, vs, ht, hpt⟩, F, q⟩ := h
    refine ⟨_, (pss_cons (ps_set (i := 2) sc_checkrepeats.nd rfl (.inl rfl) (pe_callTy0 (cr_set0KP (P := P) (w := w)) (by rfl) B_set (by decide +kernel)))
      (pss_cons (ps_for PassesOwn.never rfl (pi_listK (K := K) (pv 0)) (pg_name (i := 3) sc_checkrepeats.nd rfl (.inl rfl)) (pss_cons (ps_if (pt_cmpR (or_sinKP (P := P) (w := w)) (pv 3) (pv 2) (by rfl)) (pss_one ps_never) pss_nil)
      (pss_one (ps_expr (pe_saddKP (P := P) (w := w) (pv 2) (pa_cons (pv 3) pa_nil))))))
      (pss_cons (ps_set (i := 4) sc_checkrepeats.nd rfl (.inl rfl) (pe_callTy0 (cr_set0TP (P := P) (w := w)) (by rfl) B_set (by decide +kernel)))
      (pss_one (ps_for PassesOwn.never rfl (pi_listK (K := K) (pv 1)) (pg_tupK (K := K) (n := 2) (by rfl) (pgs_cons (pg_name (i := 5) sc_checkrepeats.nd rfl (.inl rfl)) (pgs_cons (pg_name (i := 6) sc_checkrepeats.nd rfl (.inl rfl)) pgs_nil))) (pss_cons (ps_set (i := 7) sc_checkrepeats.nd rfl (.inl rfl) (pe_call G_orderedpair (hr.mono (by omega)) (by rfl) D_orderedpair.g D_orderedpair.F.kp D_orderedpair.b .nil pass0 (pa_cons (pv 5) (pa_cons (pv 6) pa_nil))))
      (pss_cons (ps_if (pt_cmpR (or_noTP (P := P) (w := w) (hu8 hr)) (pv 7) (pv 4) (by rfl)) (pss_one ps_never) pss_nil)
      (pss_one (ps_expr (pe_addTP (P := P) (w := w) (hu8 hr) (pv 4) (pa_cons (pv 7) pa_nil))))))))))), ?_⟩
    walk_at "st"
    intro sn nsn
    walk_at "st"
    have k1 : Keeps H (L2.upd H sn (SetK P w sn (fun _ => false) 0)) := Keeps.new nsn
    have s1 : L2.upd H sn (SetK P w sn (fun _ => false) 0) sn = some (SetK P w sn (fun _ => false) 0) := upd_same
    refine ⟨⟨_, sq_of (k1 _ _ hp)⟩, ?_⟩
    have h20 := F.p20
    refine r_list (Ps.map V.str) (fun i σ H' => (∃ x b c d e, σ = [some (.ref p), some (.ref t), some (.ref sn), x, b, c, d, e]) ∧ Keeps H H' ∧ ∃ S n, H' sn = some (SetK P w sn S n) ∧ n ≤ i ∧ ∀ x, S (Sum.inr x) = true → x ∈ Ps.take i) ⟨⟨_, _, _, _, _, rfl⟩, k1, _, _, s1, Nat.le_refl _, fun x h => (by cases h)⟩ (fun i σ H' _ h => sq_of (h.2.1 _ _ hp)) ?_ ?_
    · rintro i v σ H' hx ⟨⟨x, b, c, d, e, rfl⟩, k, S, n, hs, hn, hS⟩ N kk
      obtain ⟨z, hz, rfl⟩ := get_map hx
      have hi := lt_of_get hz
      have no : S (Sum.inr z) = false := by
        cases e : S (Sum.inr z) with
        | false => rfl
        | true => exact absurd (hS z e) (take_new F.pnd hz)
      walk_at "st"
      refine ⟨Sum.inr z, rfl, S, ⟨n, hs⟩, ite2 (fun h => absurd h (by rw [no]; decide)) (fun _ => ?_)⟩
      walk_at "rt"
      refine ⟨⟨_, _, hs⟩, Sum.inr z, rfl, S, n, hs, by have : n + 1 ≤ 100 := by omega
                                                       exact Nat.lt_of_le_of_lt this (by decide), kk _ _ ⟨⟨_, _, _, _, _, rfl⟩, k.put nsn, _, _, upd_same, ?_, ?_⟩⟩
      · rw [if_neg (by rw [no]; decide)]
        omega
      · intro y hy
        rw [take_snoc hz]
        rcases (Bool.or_eq_true_iff.mp hy) with h | h
        · exact List.mem_append_left _ (hS y h)
        · have := of_decide_eq_true h
          rw [Sum.inr.inj this]
          exact List.mem_append_right _ List.mem_cons_self
    · rintro σ H' ⟨⟨x, b, c, d, e, rfl⟩, k, S, n, hs, hn, hS⟩
      walk_at "st"
      intro sp nsp
      walk_at "rt"
      have k2 : Keeps H (L2.upd H' sp (SetKT P w sp [])) := k.trans (Keeps.new nsp)
      have s2 : L2.upd H' sp (SetKT P w sp []) sp = some (SetKT P w sp []) := upd_same
      have nsp0 := k.free nsp
      generalize L2.upd H' sp (SetKT P w sp []) = H2 at k2 s2 ⊢
      refine ⟨⟨_, sq_of (k2 _ _ ht)⟩, ?_⟩
      have h60 := F.e60
      refine r_list vs (fun i σ H' => (∃ c d e, σ = [some (.ref p), some (.ref t), some (.ref sn), x, some (.ref sp), c, d, e]) ∧ Keeps H H' ∧ ∃ L, H' sp = some (SetKT P w sp L) ∧ AllT H' L ∧ L.length = i ∧ ∀ k, k ∈ L.map (·.2) → k ∈ (E'.take i).map fun e => kp (ordP e)) ⟨⟨_, _, _, rfl⟩, k2, [], s2, fun p h => (by cases h), rfl, fun k h => (by cases h)⟩ (fun i σ H' _ h => sq_of (h.2.1 _ _ ht)) ?_ ?_
      · rintro i v σ H3 hx ⟨⟨c, d, e, rfl⟩, k3, L, hs, hall, hl, hL⟩ N kk
        have hi : i < E'.length := by have := lt_of_get hx; have := hpt.1; omega
        have he := List.getElem?_eq_getElem hi
        generalize E'[i] = e0 at he
        obtain ⟨u, rfl, hu⟩ := hpt.2 i _ v he hx
        refine ⟨u, _, rfl, tup_at (k3 _ _ hu), rfl, _, _, rfl, _, _, rfl, rfl, ?_⟩
        walk_at "st"
        refine ⟨_, _, rfl, fun b nb => ?_⟩
        walk_at "st"
        have kb : L2.upd H3 b (.tup [.str (ordP e0).1, .str (ordP e0).2]) b = some (.tup ((kp (ordP e0)).map kV)) := upd_same
        have hall' : AllT (L2.upd H3 b (.tup [.str (ordP e0).1, .str (ordP e0).2])) L := fun p hp => (upd_ne (ne_of_none (hall p hp) nb)).trans (hall p hp)
        have hs' : L2.upd H3 b (.tup [.str (ordP e0).1, .str (ordP e0).2]) sp = some (SetKT P w sp L) := (upd_ne (ne_of_none hs nb)).trans hs
        have hnew : kp (ordP e0) ∉ L.map (·.2) := fun hm => by
          obtain ⟨e1, he1, e2⟩ := List.mem_map.mp (hL _ hm)
          have h1 := take_new F.end' (z := ordP e0) (i := i) (by rw [List.getElem?_map, he]; rfl)
          rw [← List.map_take] at h1
          exact h1 (List.mem_map.mpr ⟨e1, he1, kp_inj e2⟩)
        have k4 : Keeps H (L2.upd H3 b (.tup [.str (ordP e0).1, .str (ordP e0).2])) := k3.put (k3.free nb)
        refine ⟨_, kb, L, hs', hall', hnew, ⟨L, hs'⟩, _, L, hs', kb, hall', hnew, by omega, fun L' pm => kk _ _ ⟨⟨_, _, _, rfl⟩, k4.put nsp0, L', upd_same, ?_, ?_, ?_⟩⟩
        · intro p hp
          have : p = (b, kp (ordP e0)) ∨ p ∈ L := List.mem_cons.mp (pm.mem_iff.mp hp)
          have h2 : L2.upd H3 b (.tup [.str (ordP e0).1, .str (ordP e0).2]) p.1 = some (.tup (p.2.map kV)) := this.elim (fun z => by rw [z]; exact kb) (hall' p)
          rw [upd_ne (fun z => by rw [z, hs'] at h2; cases h2)]
          exact h2
        · rw [pm.length_eq, List.length_cons, hl]
        · intro y hy
          obtain ⟨p, hp, rfl⟩ := List.mem_map.mp hy
          rw [take_snoc he, List.map_append]
          rcases List.mem_cons.mp (pm.mem_iff.mp hp) with z | z
          · rw [z]
            exact List.mem_append_right _ List.mem_cons_self
          · exact List.mem_append_left _ (hL _ (List.mem_map.mpr ⟨p, z, rfl⟩))
      · rintro σ H3 ⟨⟨c, d, e, rfl⟩, k3, L, hs, hall, hl, hL⟩
        exact q H3 k3
end
end K01
namespace K01
open PySem PySem.Spec PyProof.Rows L2 TL HotExc Tw WX
local macro_rules | `(tactic| walk_at "rd") => `(tactic| simp only [start1, wipe, isR, isBool, isInt, isStr, isLst, isTup, tAsg, gName, gSub, tVar, tC, tOp, tUn, tTest, tIfS, tRet, tRetN, tDrop, tB, tAnd, tOr, tNot, tAndV, tOrV, tNotV, tIf, tCB, tCons, tNil, tNext, tCall, tBM, tTup, tLst, rU, rInW, rNinW, Int.reduceNeg, tG, tG2, sP, tFldC, sFldC, tProp, tMeth, tMake, rOwnC, rLenO, rIsC, rNoT, tAddT, tSAddK, rSAddK, rSInK, rSet0K, rSet0T, rMinS, rMaxS, rSortedQ, rSortedT, rEqD, rNeD, rIxD, dcL_eq, dcZ_eq, lcO_eq, forE_eq, forT_eq, lcS_eq, ItX.rIterN, iOwn, List.append_nil, tDisp, tPairs, tCallS, tCallSD, tCallT, StX.tStar, tCallK, tCallKS, rTupOf, tDrop, rI0, rI, rEq, rNe, scal, forR_eq, forR2_eq, forS_eq, forL_eq, lcT_eq, lcRT_eq, lcS_eq, rLenX, rLenS, rListOf, tRevL, rMulS, rRepL, rCatL, rSumN, rMaxN, tBM0, rPop, tAug, ipI,  tPart, tNoPart, CwR.tReplC, rAllK, rInSg, rNinSg, sgn_inj, rAddS, rInSt, tChain, tM1, tM0, rSplitN, rJoinN, exists_eq, rIntI, rIntB, rIntS, rStrI, rAbs, rOrd, rMin, rMax, rIxL, rIxX, rSetL, rAppend, rIxS, rSlS, rSlL, tSl, List.map_cons, List.map_nil, List.replicate_succ, List.replicate_zero, List.length_cons, List.length_nil, Nat.reduceSub, Nat.reduceAdd, Nat.zero_add, Nat.sub_self, List.getElem?_cons_zero, List.getElem?_cons_succ, List.set_cons_zero, List.set_cons_succ, List.append_nil, List.nil_append, List.cons_append, Option.some.injEq, not_true_eq_false, reduceCtorEq, exists_eq_left', exists_eq_left, exists_eq', exists_and_left, exists_and_right, V.int.injEq, V.str.injEq, V.bl.injEq, V.ref.injEq, List.cons.injEq, and_true, true_and, and_assoc, decide_eq_true_eq, Bool.not_eq_true', decide_eq_false_iff_not, ite_true, ite_false, if_true, if_false, Bool.not_true, Bool.not_false, Bool.false_eq_true, eq_self_iff_true, reduceIte, ne_eq, Int.reduceEq, not_false_eq_true])
local macro_rules | `(tactic| walk_at "rt") => `(tactic| try walk_at "rd")
local macro_rules | `(tactic| walk_at "st") => `(tactic| (walk_at "rt"; refine r_seq ?_; walk_at "rt"))
local macro_rules | `(tactic| walk_at "hp") => `(tactic| first | assumption | exact upd_same | (rw [upd_ne (by assumption)]; walk_at "hp"))
local macro_rules | `(tactic| walk_at "ex1") => `(tactic| ((with_reducible refine Exists.intro ?w (And.intro ?hx ?_)); (case hx => first | exact sq_of (by walk_at "hp") | exact .inl (sq_of (by walk_at "hp")) | exact rfl | (show _ = some (HO.lst _); walk_at "hp"))))
local macro_rules | `(tactic| walk_at "ex") => `(tactic| repeat (first | walk_at "ex1" | walk_at "rd"))
abbrev s_neartable : Stmt := topS 40
theorem sc_neartable : FnScope ["places", "ties", "near", "one", "two", "place"] ["places", "ties"] (defScope s_neartable) := ⟨rfl, rfl, rfl, by decide +kernel, rfl, by decide +kernel, by decide +kernel⟩
/-- the other ends of the ties at a place, in the ties' order -/
def nears (T : List (Str × Str)) (x : Str) : List Str := T.flatMap fun e => (if e.1 = x then [e.2] else []) ++ (if e.2 = x then [e.1] else [])
theorem nears_snoc (T : List (Str × Str)) (e : Str × Str) (x : Str) : nears (T ++ [e]) x = (nears T x ++ if e.1 = x then [e.2] else []) ++ if e.2 = x then [e.1] else [] := by
  unfold nears
  rw [List.flatMap_append, List.flatMap_singleton, List.append_assoc]
theorem nears_len (T : List (Str × Str)) (x : Str) : (nears T x).length ≤ 2 * T.length := by
  induction T with
  | nil => exact Nat.zero_le _
  | cons e T ih =>
    unfold nears at ih ⊢
    rw [List.flatMap_cons, List.length_append, List.length_append, List.length_cons]
    have h1 : (if e.1 = x then [e.2] else []).length ≤ 1 := by split <;> simp
    have h2 : (if e.2 = x then [e.1] else []).length ≤ 1 := by split <;> simp
    omega
/-- a table under work: new lists, one for each key, as f tells -/
structure NearE (H0 H : Hp) (kvs : List (Key × V)) (Ps : List Str) (f : Str → List Str) : Prop where
  at' : ∀ x ∈ Ps, ∃ l, valV kvs (Sum.inr x) = some (.ref l) ∧ H0 l = none ∧ H l = some (.lst ((f x).map V.str))
  inj : ∀ x y l, valV kvs (Sum.inr x) = some (.ref l) → valV kvs (Sum.inr y) = some (.ref l) → x = y
  key : ∀ k v, valV kvs k = some v → ∃ x ∈ Ps, k = Sum.inr x
theorem NearE.nil {H0 H : Hp} {f : Str → List Str} : NearE H0 H [] [] f := ⟨fun x h => (by cases h), fun x y l h => (by cases h), fun k v h => (by cases h)⟩
theorem NearE.keep {H0 H H' : Hp} {kvs : List (Key × V)} {Ps : List Str} {f : Str → List Str} (h : NearE H0 H kvs Ps f) (k : ∀ l xs, H0 l = none → H l = some (.lst xs) → H' l = some (.lst xs)) : NearE H0 H' kvs Ps f := ⟨fun x hx => by
  obtain ⟨l, h1, h2, h3⟩ := h.at' x hx
  exact ⟨l, h1, h2, k _ _ h2 h3⟩, h.inj, h.key⟩
theorem NearE.ext {H0 H : Hp} {kvs : List (Key × V)} {Ps : List Str} {f g : Str → List Str} (h : NearE H0 H kvs Ps f) (e : ∀ x ∈ Ps, f x = g x) : NearE H0 H kvs Ps g := ⟨fun x hx => by
  obtain ⟨l, h1, h2, h3⟩ := h.at' x hx
  exact ⟨l, h1, h2, by rw [← e x hx]; exact h3⟩, h.inj, h.key⟩
theorem NearE.set {H0 H : Hp} {kvs : List (Key × V)} {Ps Qs : List Str} {f : Str → List Str} (h : NearE H0 H kvs Ps f) (e : ∀ x, x ∈ Ps ↔ x ∈ Qs) : NearE H0 H kvs Qs f := ⟨fun x hx => h.at' x ((e x).mpr hx), h.inj, fun k v hv => by
  obtain ⟨x, hx, ek⟩ := h.key k v hv
  exact ⟨x, (e x).mp hx, ek⟩⟩
/-- a key more, or a new list at a key -/
theorem NearE.put {H0 H H' : Hp} {kvs : List (Key × V)} {Ps : List Str} {f : Str → List Str} (h : NearE H0 H kvs Ps f) {l : Addr} {x : Str} (nl : H l = none) (n0 : H0 l = none) (k : ∀ p xs, H p = some (.lst xs) → H' p = some (.lst xs)) {g : Str → List Str} (hg : ∀ y, y ≠ x → f y = g y) (hl : H' l = some (.lst ((g x).map V.str))) : NearE H0 H' (putK kvs (Sum.inr x) (.ref l)) (Ps ++ [x]) g := by
  have old : ∀ y l', valV kvs (Sum.inr y) = some (.ref l') → l' ≠ l := fun y l' hv z => by
    obtain ⟨y', hy', e⟩ := h.key _ _ hv
    cases e
    obtain ⟨l2, h1, _, h3⟩ := h.at' y hy'
    rw [h1] at hv
    cases hv
    rw [z, nl] at h3
    cases h3
  have val : ∀ y, valV (putK kvs (Sum.inr x) (.ref l)) (Sum.inr y) = if y = x then some (.ref l) else valV kvs (Sum.inr y) := fun y => by
    rw [valV_put]
    by_cases e : y = x
    · rw [if_pos e, if_pos (by rw [e])]
    · rw [if_neg e, if_neg (fun z => e (Sum.inr.inj z))]
  refine ⟨fun y hy => ?_, fun y z l' h1 h2 => ?_, fun kk v hv => ?_⟩
  · rw [val]
    by_cases e : y = x
    · rw [if_pos e, e]
      exact ⟨l, rfl, n0, hl⟩
    · rw [if_neg e]
      rcases List.mem_append.mp hy with hy | hy
      · obtain ⟨l', h1, h2, h3⟩ := h.at' y hy
        exact ⟨l', h1, h2, by rw [← hg y e]; exact k _ _ h3⟩
      · exact absurd (List.mem_singleton.mp hy) e
  · rw [val] at h1 h2
    by_cases e1 : y = x
    · rw [if_pos e1] at h1
      cases h1
      by_cases e2 : z = x
      · rw [e1, e2]
      · rw [if_neg e2] at h2
        exact absurd rfl (old _ _ h2)
    · rw [if_neg e1] at h1
      by_cases e2 : z = x
      · rw [if_pos e2] at h2
        cases h2
        exact absurd rfl (old _ _ h1)
      · rw [if_neg e2] at h2
        exact h.inj _ _ _ h1 h2
  · rw [valV_put] at hv
    by_cases e : kk = Sum.inr x
    · exact ⟨x, List.mem_append_right _ List.mem_cons_self, e⟩
    · rw [if_neg e] at hv
      obtain ⟨y, hy, e⟩ := h.key _ _ hv
      exact ⟨y, List.mem_append_left _ hy, e⟩
theorem NearE.app {H0 H : Hp} {kvs : List (Key × V)} {Ps : List Str} {f : Str → List Str} (h : NearE H0 H kvs Ps f) {y z : Str} {l : Addr} (hv : valV kvs (Sum.inr y) = some (.ref l)) (hl : H l = some (.lst ((f y).map V.str))) :
    NearE H0 (L2.upd H l (.lst ((f y).map V.str ++ [.str z]))) kvs Ps (fun x => f x ++ if y = x then [z] else []) := by
  refine ⟨fun x hx => ?_, h.inj, h.key⟩
  obtain ⟨l', h1, h2, h3⟩ := h.at' x hx
  by_cases e : y = x
  · subst e
    rw [h1] at hv
    cases hv
    exact ⟨_, h1, h2, by rw [upd_same, if_pos rfl, List.map_append]; rfl⟩
  · refine ⟨l', h1, h2, ?_⟩
    rw [if_neg e, List.append_nil, upd_ne (fun z => by rw [z] at h1; exact e (h.inj _ _ _ hv h1))]
    exact h3
/-- the table of near places -/
def NearAt (H : Hp) (d : Addr) (Ps : List Str) (T : List (Str × Str)) : Prop := ∃ kvs, H d = some (.dK kvs) ∧ (∀ x ∈ Ps, ∃ l, valV kvs (Sum.inr x) = some (.ref l) ∧ H l = some (.lst ((sortS (nears T x)).map V.str))) ∧ ∀ k v, valV kvs k = some v → ∃ x ∈ Ps, k = Sum.inr x
theorem NearAt.keep {H H' : Hp} {d : Addr} {Ps : List Str} {T : List (Str × Str)} (h : NearAt H d Ps T) (k : Keeps H H') : NearAt H' d Ps T := by
  obtain ⟨kvs, h1, h2, h3⟩ := h
  exact ⟨kvs, k _ _ h1, fun x hx => by
    obtain ⟨l, g1, g2⟩ := h2 x hx
    exact ⟨l, g1, k _ _ g2⟩, h3⟩
theorem NearAt.upd {H : Hp} {d a : Addr} {Ps : List Str} {T : List (Str × Str)} {o u : HO} (h : NearAt H d Ps T) (ha : H a = some o) (n1 : ∀ xs, o ≠ .lst xs) (n2 : ∀ xs, o ≠ .dK xs) : NearAt (L2.upd H a u) d Ps T := by
  obtain ⟨kvs, h1, h2, h3⟩ := h
  exact ⟨kvs, (upd_ne (fun z => by rw [z, ha] at h1; exact n2 _ (Option.some.inj h1))).trans h1, fun x hx => by
    obtain ⟨l, g1, g2⟩ := h2 x hx
    exact ⟨l, g1, (upd_ne (fun z => by rw [z, ha] at g2; exact n1 _ (Option.some.inj g2))).trans g2⟩, h3⟩
theorem NearAt.but {H H' : Hp} {d a : Addr} {Ps : List Str} {T : List (Str × Str)} (h : NearAt H d Ps T) (b : But a H H') (n1 : ∀ p xs, H p = some (.lst ((xs : List Str).map V.str)) → p ≠ a) (n2 : ∀ p kvs, H p = some (.dK kvs) → p ≠ a) : NearAt H' d Ps T := by
  obtain ⟨kvs, h1, h2, h3⟩ := h
  exact ⟨kvs, b _ _ (n2 _ _ h1) h1, fun x hx => by
    obtain ⟨l, g1, g2⟩ := h2 x hx
    exact ⟨l, g1, b _ _ (n1 _ _ g2) g2⟩, h3⟩
def spNear : Sp := fun vs H Q _ => ∃ (p t : Addr) (Ps : List Str) (T : List (Str × Str)), vs = [.ref p, .ref t] ∧ Args H p t Ps T ∧ Ps.length ≤ 20 ∧ T.length ≤ 60 ∧ (∀ e ∈ T, e.1 ∈ Ps ∧ e.2 ∈ Ps) ∧ ∀ r H', Keeps H H' → H r = none → NearAt H' r Ps T → (∀ kvs k l, H' r = some (.dK kvs) → valV kvs k = some (.ref l) → H l = none) → Q (.ref r) H'
section
variable {P : Program} {w : World} {K : PySem.W.Frag} {mg : Str → Option Value} {base : Heap}
theorem ok_near {f : Addr} {fd : FuncData} (B : Bi mg) (B_sorted : mg "sorted" = none) (D : Dn K mg "near_table" s_neartable ["places", "ties"] f fd) : FnOk P w K mg base CX0 2 f fd ["places", "ties"] spNear := by
  refine D.F.ok sc_neartable (fun vs H Q E h => ?_) (fun cdv A outer s H vs Q E hr h => ?_)
  · obtain ⟨p, t, Ps, T, rfl, _⟩ := h
    rfl
  · obtain ⟨p, t, Ps, T, rfl, ⟨hp, vs, ht, hpt⟩, h20, h60, hin, q⟩ := h
    refine ⟨_, (pss_cons (ps_set (i := 2) sc_neartable.nd rfl (.inr rfl) (pe_dc (own := [("place", 5)]) (g := (gName 5)) (tt := tYes) (by rfl) sc_neartable.nd (pi_listK (K := K) (pv 0)) (blkOk_by (own := [("place", 5)]) (N := ["places", "ties", "near", "one", "two", "place"]) (sc := defScope s_neartable) (by decide +kernel)) (fun _ _ _ _ _ => (pg_name (i := 5) sc_neartable.nd rfl (Or.inl rfl))) (fun _ _ _ _ _ => pts_nil) (fun _ _ _ _ _ => (pv 5)) (fun _ _ _ _ _ => (pe_lst pa_nil))))
      (pss_cons (ps_for PassesOwn.never rfl (pi_listK (K := K) (pv 1)) (pg_tupK (K := K) (n := 2) (by rfl) (pgs_cons (pg_name (i := 3) sc_neartable.nd rfl (.inl rfl)) (pgs_cons (pg_name (i := 4) sc_neartable.nd rfl (.inl rfl)) pgs_nil))) (pss_cons (ps_expr (pe_bm PySem.F.plainAttrs_list PySem.F.slot_list_append PySem.F.type_list_append mt_append (pe_gS (hu_of hr) (pv 2) (pv 3) (fun _ _ => rfl)) (pa_cons (pv 4) pa_nil)))
      (pss_one (ps_expr (pe_bm PySem.F.plainAttrs_list PySem.F.slot_list_append PySem.F.type_list_append mt_append (pe_gS (hu_of hr) (pv 2) (pv 4) (fun _ _ => rfl)) (pa_cons (pv 3) pa_nil))))))
      (pss_one (ps_ret (pe_dc (own := [("place", 5)]) (g := (gName 5)) (tt := tYes) (by rfl) sc_neartable.nd (pi_listK (K := K) (pv 0)) (blkOk_by (own := [("place", 5)]) (N := ["places", "ties", "near", "one", "two", "place"]) (sc := defScope s_neartable) (by decide +kernel)) (fun _ _ _ _ _ => (pg_name (i := 5) sc_neartable.nd rfl (Or.inl rfl))) (fun _ _ _ _ _ => pts_nil) (fun _ _ _ _ _ => (pv 5)) (fun _ _ _ _ _ => (pe_callB (call_sortedTK (K := K) (hu64 hr)) (by rfl) B_sorted (by decide +kernel) (pa_cons (pe_gS (hu_of hr) (pv 2) (pv 5) (fun _ _ => rfl)) pa_nil)))))))), ?_⟩
    walk_at "st"
    refine ⟨⟨_, sq_of hp⟩, fun nt nnt => ?_⟩
    have nn : nears [] = fun _ => [] := rfl
    refine r_dcL (Ps.map V.str) (fun i H' => Keeps H H' ∧ ∃ kvs, H' nt = some (.dK kvs) ∧ kvs.length ≤ i ∧ NearE H H' kvs (Ps.take i) (nears [])) (fun _ => rfl) ⟨Keeps.new nnt, [], upd_same, Nat.le_refl _, NearE.nil⟩ (fun i H' _ h => sq_of (h.1 _ _ hp)) ?_ ?_
    · rintro i v H' hx ⟨k, kvs, hn, hl, hw⟩ N kN
      obtain ⟨z, hz, rfl⟩ := get_map hx
      have hi := lt_of_get hz
      walk_at "rt"
      refine ⟨Nat.zero_le _, fun l nl => ?_⟩
      have h5 : L2.upd H' l (.lst []) nt = some (.dK kvs) := (upd_ne (ne_of_none hn nl)).trans hn
      have hl2 := length_putK kvs (Sum.inr z) (.ref l)
      refine kN (Sum.inr z) (.ref l) _ kvs h5 (size_ok (by omega)) ⟨(k.put (k.free nl)).put nnt, _, upd_same, by omega, ?_⟩
      rw [take_snoc hz]
      refine hw.put nl (k.free nl) (fun p xs h => ?_) (fun _ _ => rfl) ((upd_ne (fun z => by rw [← z] at hn; rw [hn] at nl; cases nl)).trans upd_same)
      rw [upd_ne (fun z => by rw [z, hn] at h; cases h), upd_ne (ne_of_none h nl)]
      exact h
    rintro H1 ⟨k1, kvs, hn, hl, hw⟩
    rw [List.length_map, List.take_length] at hw
    walk_at "st"
    refine ⟨⟨_, sq_of (k1 _ _ ht)⟩, ?_⟩
    refine r_list vs (fun i σ H' => (∃ b c d, σ = [some (.ref p), some (.ref t), some (.ref nt), b, c, d]) ∧ Keeps H H' ∧ H' nt = some (.dK kvs) ∧ NearE H H' kvs Ps (nears (T.take i))) ⟨⟨_, _, _, rfl⟩, k1, hn, hw⟩ (fun i σ H' _ h => sq_of (h.2.1 _ _ ht)) ?_ ?_
    · rintro i v σ H' hx ⟨⟨b, c, d, rfl⟩, k, hn', hw'⟩ N kk
      have hi : i < T.length := by have := lt_of_get hx; have := hpt.1; omega
      have he := List.getElem?_eq_getElem hi
      have hm := hin _ (List.getElem_mem hi)
      generalize T[i] = e0 at he hm
      obtain ⟨u, rfl, hu⟩ := hpt.2 i _ v he hx
      have len : ∀ x, (nears (T.take i) x).length ≤ 120 := fun x => by
        have := nears_len (T.take i) x
        rw [List.length_take] at this
        omega
      refine ⟨u, _, rfl, tup_at (k _ _ hu), rfl, _, _, rfl, _, _, rfl, rfl, ?_⟩
      obtain ⟨l1, hv1, a1, b1⟩ := hw'.at' _ hm.1
      walk_at "st"
      refine ⟨kvs, hn', _, hv1, .inl ⟨rfl, _, sq_of b1⟩, l1, rfl, _, b1, size_ok (by rw [List.length_map]; have := len e0.1; omega), ?_⟩
      have hn2 : L2.upd H' l1 (.lst ((nears (T.take i) e0.1).map V.str ++ [.str e0.2])) nt = some (.dK kvs) := (upd_ne (fun z => by rw [z, b1] at hn'; cases hn')).trans hn'
      have kp2 := k.put (p := l1) (x := .lst ((nears (T.take i) e0.1).map V.str ++ [.str e0.2])) a1
      have hw2 := hw'.app (z := e0.2) hv1 b1
      generalize L2.upd H' l1 (.lst ((nears (T.take i) e0.1).map V.str ++ [.str e0.2])) = H2 at hn2 kp2 hw2 ⊢
      obtain ⟨l2, hv2, a2, b2⟩ := hw2.at' _ hm.2
      walk_at "rt"
      refine ⟨kvs, hn2, _, hv2, .inl ⟨rfl, _, sq_of b2⟩, l2, rfl, _, b2, size_ok (by
        rw [List.length_map, List.length_append]
        have := len e0.2
        have : (if e0.1 = e0.2 then [e0.2] else []).length ≤ 1 := by split <;> simp
        omega), ?_⟩
      exact kk _ _ ⟨⟨_, _, _, rfl⟩, kp2.put a2, (upd_ne (fun z => by rw [z, b2] at hn2; cases hn2)).trans hn2, (hw2.app hv2 b2).ext fun x _ => by rw [take_snoc he, nears_snoc]⟩
    · rintro σ H2 ⟨⟨b, c, d, rfl⟩, k2, hn2, hw2⟩
      rw [List.take_of_length_le (by rw [hpt.1]; exact Nat.le_refl _)] at hw2
      walk_at "rt"
      refine ⟨⟨_, sq_of (k2 _ _ hp)⟩, fun r nr => ?_⟩
      have kr : Keeps H2 (L2.upd H2 r (.dK [])) := Keeps.new nr
      have nr0 := k2.free nr
      refine r_dcL (Ps.map V.str) (fun i H' => Keeps H2 H' ∧ ∃ kv2, H' r = some (.dK kv2) ∧ kv2.length ≤ i ∧ NearE H H' kv2 (Ps.take i) (fun x => sortS (nears T x))) (fun _ => rfl) ⟨kr, [], upd_same, Nat.le_refl _, NearE.nil⟩ (fun i H' _ h => sq_of (h.1 _ _ (k2 _ _ hp))) ?_ ?_
      · rintro i v H' hx ⟨k, kv2, hr2, hl2, hw3⟩ N kN
        obtain ⟨z, hz, rfl⟩ := get_map hx
        have hi := lt_of_get hz
        obtain ⟨l, hv0, l1, l2⟩ := hw2.at' z (List.mem_of_getElem? hz)
        have l2 := k _ _ l2
        have hn3 := k _ _ hn2
        walk_at "rt"
        refine ⟨kvs, hn3, _, hv0, l, rfl, _, sq_of l2, fun p2 np2 => ?_⟩
        have h5 : L2.upd H' p2 (.lst ((sortS (nears T z)).map V.str)) r = some (.dK kv2) := (upd_ne (ne_of_none hr2 np2)).trans hr2
        have hlp := length_putK kv2 (Sum.inr z) (.ref p2)
        refine kN (Sum.inr z) (.ref p2) _ kv2 h5 (size_ok (by omega)) ⟨(k.put (k.free np2)).put nr, _, upd_same, by omega, ?_⟩
        rw [take_snoc hz]
        refine hw3.put np2 (k2.free (k.free np2)) (fun p xs h => ?_) (fun _ _ => rfl) ((upd_ne (fun z => by rw [← z] at hr2; rw [hr2] at np2; cases np2)).trans upd_same)
        rw [upd_ne (fun z => by rw [z, hr2] at h; cases h), upd_ne (ne_of_none h np2)]
        exact h
      · rintro H3 ⟨k3, kv2, hr2, _, hw3⟩
        rw [List.length_map, List.take_length] at hw3
        exact q r H3 (k2.trans k3) nr0 ⟨kv2, hr2, fun x hx => by
          obtain ⟨l, h1, _, h3⟩ := hw3.at' x hx
          exact ⟨l, h1, h3⟩, hw3.key⟩ fun kvs' k l e hv => by
          rw [hr2] at e
          cases e
          obtain ⟨x, hx, rfl⟩ := hw3.key k _ hv
          obtain ⟨l', h1, h2, _⟩ := hw3.at' x hx
          rw [h1] at hv
          cases hv
          exact h2
end
end K01
namespace K01
open PySem PySem.Spec PyProof.Rows L2 TL HotExc Tw WX
local macro_rules | `(tactic| walk_at "rd") => `(tactic| simp only [start1, wipe, isR, isBool, isInt, isStr, isLst, isTup, tAsg, gName, gSub, tVar, tC, tOp, tUn, tTest, tIfS, tRet, tRetN, tDrop, tB, tAnd, tOr, tNot, tAndV, tOrV, tNotV, tIf, tCB, tCons, tNil, tNext, tCall, tBM, tTup, tLst, rU, rInW, rNinW, Int.reduceNeg, tG, tG2, sP, tFldC, sFldC, tProp, tMeth, tMake, rOwnC, rLenO, rIsC, rNoT, tAddT, tSAddK, rSAddK, rSInK, rSet0K, rSet0T, rMinS, rMaxS, rSortedQ, rSortedT, rEqD, rNeD, rIxD, dcL_eq, dcZ_eq, lcO_eq, forE_eq, forT_eq, lcS_eq, ItX.rIterN, iOwn, List.append_nil, tDisp, tPairs, tCallS, tCallSD, tCallT, StX.tStar, tCallK, tCallKS, rTupOf, tDrop, rI0, rI, rEq, rNe, scal, forR_eq, forR2_eq, forS_eq, forL_eq, lcT_eq, lcRT_eq, lcS_eq, rLenX, rLenS, rListOf, tRevL, rMulS, rRepL, rCatL, rSumN, rMaxN, tBM0, rPop, tAug, ipI,  tPart, tNoPart, CwR.tReplC, rAllK, rInSg, rNinSg, sgn_inj, rAddS, rInSt, tChain, tM1, tM0, rSplitN, rJoinN, exists_eq, rIntI, rIntB, rIntS, rStrI, rAbs, rOrd, rMin, rMax, rIxL, rIxX, rSetL, rAppend, rIxS, rSlS, rSlL, tSl, List.map_cons, List.map_nil, List.replicate_succ, List.replicate_zero, List.length_cons, List.length_nil, Nat.reduceSub, Nat.reduceAdd, Nat.zero_add, Nat.sub_self, List.getElem?_cons_zero, List.getElem?_cons_succ, List.set_cons_zero, List.set_cons_succ, List.append_nil, List.nil_append, List.cons_append, Option.some.injEq, not_true_eq_false, reduceCtorEq, exists_eq_left', exists_eq_left, exists_eq', exists_and_left, exists_and_right, V.int.injEq, V.str.injEq, V.bl.injEq, V.ref.injEq, List.cons.injEq, and_true, true_and, and_assoc, decide_eq_true_eq, Bool.not_eq_true', decide_eq_false_iff_not, ite_true, ite_false, if_true, if_false, Bool.not_true, Bool.not_false, Bool.false_eq_true, eq_self_iff_true, reduceIte, ne_eq, Int.reduceEq, not_false_eq_true])
local macro_rules | `(tactic| walk_at "rt") => `(tactic| try walk_at "rd")
local macro_rules | `(tactic| walk_at "st") => `(tactic| (walk_at "rt"; refine r_seq ?_; walk_at "rt"))
local macro_rules | `(tactic| walk_at "hp") => `(tactic| first | assumption | exact upd_same | (rw [upd_ne (by assumption)]; walk_at "hp"))
local macro_rules | `(tactic| walk_at "ex1") => `(tactic| ((with_reducible refine Exists.intro ?w (And.intro ?hx ?_)); (case hx => first | exact sq_of (by walk_at "hp") | exact .inl (sq_of (by walk_at "hp")) | exact rfl | (show _ = some (HO.lst _); walk_at "hp"))))
local macro_rules | `(tactic| walk_at "ex") => `(tactic| repeat (first | walk_at "ex1" | walk_at "rd"))
abbrev s_iWeb : Stmt := clsS 38 0
theorem sc_iWeb : FnScope ["self", "places", "ties", "one", "two"] ["self", "places", "ties"] (defScope s_iWeb) := ⟨rfl, rfl, rfl, by decide +kernel, rfl, by decide +kernel, by decide +kernel⟩
abbrev s_mWeb_places : Stmt := clsS 38 1
theorem sc_mWeb_places : FnScope ["self"] ["self"] (defScope s_mWeb_places) := ⟨rfl, rfl, rfl, by decide +kernel, rfl, by decide +kernel, by decide +kernel⟩
abbrev s_mWeb_ties : Stmt := clsS 38 2
theorem sc_mWeb_ties : FnScope ["self"] ["self"] (defScope s_mWeb_ties) := ⟨rfl, rfl, rfl, by decide +kernel, rfl, by decide +kernel, by decide +kernel⟩
abbrev s_mWeb_len : Stmt := clsS 38 14
theorem sc_mWeb_len : FnScope ["self"] ["self"] (defScope s_mWeb_len) := ⟨rfl, rfl, rfl, by decide +kernel, rfl, by decide +kernel, by decide +kernel⟩
abbrev s_mWeb_iter : Stmt := clsS 38 15
theorem sc_mWeb_iter : FnScope ["self"] ["self"] (defScope s_mWeb_iter) := ⟨rfl, rfl, rfl, by decide +kernel, rfl, by decide +kernel, by decide +kernel⟩
abbrev s_mWeb_eq : Stmt := clsS 38 17
theorem sc_mWeb_eq : FnScope ["self", "other"] ["self", "other"] (defScope s_mWeb_eq) := ⟨rfl, rfl, rfl, by decide +kernel, rfl, by decide +kernel, by decide +kernel⟩
theorem _root_.WX.PT.snoc {H : Hp} {ps : List (Str × Str)} {vs : List V} {t : Addr} {p : Str × Str} (h : PT H ps vs) (ht : H t = some (.tup [.str p.1, .str p.2])) : PT H (ps ++ [p]) (vs ++ [.ref t]) := by
  refine ⟨by rw [List.length_append, List.length_append, h.1]; rfl, fun i q v e1 e2 => ?_⟩
  by_cases hi : i < ps.length
  · rw [List.getElem?_append_left hi] at e1
    rw [List.getElem?_append_left (by rw [h.1]; exact hi)] at e2
    exact h.2 i q v e1 e2
  · have hl := lt_of_get e1
    rw [List.length_append, List.length_singleton] at hl
    obtain rfl : i = ps.length := by omega
    rw [List.getElem?_append_right (Nat.le_refl _), Nat.sub_self] at e1
    rw [List.getElem?_append_right (by rw [h.1]; exact Nat.le_refl _), h.1, Nat.sub_self] at e2
    cases e1
    cases e2
    exact ⟨t, rfl, ht⟩
theorem _root_.WX.PT.keeps {H H' : Hp} {ps : List (Str × Str)} {vs : List V} (h : PT H ps vs) (k : Keeps H H') : PT H' ps vs := h.keep fun t xs e => k _ _ e
theorem _root_.WX.PT.upd {H : Hp} {ps : List (Str × Str)} {vs : List V} {a : Addr} {o u : HO} (h : PT H ps vs) (ha : H a = some o) (no : ∀ xs, o ≠ .tup xs) : PT (L2.upd H a u) ps vs := h.keep fun t xs e => (upd_ne (fun z => by rw [z, ha] at e; exact no _ (Option.some.inj e))).trans e
def webF (pl tl nd : Addr) : List (Str × V) := putF (Str.ofString "_near") (.ref nd) (putF (Str.ofString "_ties") (.ref tl) (putF (Str.ofString "_places") (.ref pl) []))
theorem webF_places (pl tl nd : Addr) : (webF pl tl nd).lookup (Str.ofString "_places") = some (.ref pl) := by
  unfold webF
  rw [lookup_putF, if_neg (by decide +kernel), lookup_putF, if_neg (by decide +kernel), lookup_putF, if_pos rfl]
theorem webF_ties (pl tl nd : Addr) : (webF pl tl nd).lookup (Str.ofString "_ties") = some (.ref tl) := by
  unfold webF
  rw [lookup_putF, if_neg (by decide +kernel), lookup_putF, if_pos rfl]
/-- a web of these places and ties -/
structure WebAt (C : Addr) (H : Hp) (x pl tl nd dx : Addr) (Ps : List Str) (T : List (Str × Str)) (vs : List V) : Prop where
  ob : H x = some (.ins C dx (webF pl tl nd))
  pl_ : H pl = some (.lst (Ps.map V.str))
  tl_ : H tl = some (.lst vs)
  pt : PT H T vs
  nr : NearAt H nd Ps T
def IsWeb (C : Addr) (H : Hp) (x : Addr) (Ps : List Str) (T : List (Str × Str)) : Prop := ∃ pl tl nd dx vs, WebAt C H x pl tl nd dx Ps T vs
theorem WebAt.keep {C : Addr} {H H' : Hp} {x pl tl nd dx : Addr} {Ps : List Str} {T : List (Str × Str)} {vs : List V} (h : WebAt C H x pl tl nd dx Ps T vs) (k : Keeps H H') : WebAt C H' x pl tl nd dx Ps T vs := ⟨k _ _ h.ob, k _ _ h.pl_, k _ _ h.tl_, h.pt.keep fun t xs e => k _ _ e, h.nr.keep k⟩
theorem IsWeb.keep {C : Addr} {H H' : Hp} {x : Addr} {Ps : List Str} {T : List (Str × Str)} (h : IsWeb C H x Ps T) (k : Keeps H H') : IsWeb C H' x Ps T := let ⟨pl, tl, nd, dx, vs, h⟩ := h; ⟨pl, tl, nd, dx, vs, h.keep k⟩
/-- the list behind a web's walk -/
def WebR (C : Addr) (a l : Addr) (H : Hp) : Prop := ∃ tl nd dx, H a = some (.ins C dx (webF l tl nd))
/-- a web whose lists and table are new since H0 -/
def IsWebF (C : Addr) (H0 H : Hp) (x : Addr) (Ps : List Str) (T : List (Str × Str)) : Prop := ∃ pl tl nd dx vs, WebAt C H x pl tl nd dx Ps T vs ∧ H0 pl = none ∧ H0 tl = none ∧ H0 nd = none ∧ ∀ kvs k l, H nd = some (.dK kvs) → valV kvs k = some (.ref l) → H0 l = none
theorem IsWebF.is {C : Addr} {H0 H : Hp} {x : Addr} {Ps : List Str} {T : List (Str × Str)} (h : IsWebF C H0 H x Ps T) : IsWeb C H x Ps T := let ⟨pl, tl, nd, dx, vs, W, _⟩ := h; ⟨pl, tl, nd, dx, vs, W⟩
theorem IsWebF.keep {C : Addr} {H0 H H' : Hp} {x : Addr} {Ps : List Str} {T : List (Str × Str)} (h : IsWebF C H0 H x Ps T) (k : Keeps H H') : IsWebF C H0 H' x Ps T := by
  obtain ⟨pl, tl, nd, dx, vs, W, h1, h2, h3, h4⟩ := h
  obtain ⟨kvs, e, _⟩ := W.nr
  exact ⟨pl, tl, nd, dx, vs, W.keep k, h1, h2, h3, fun kvs' k' l e' hv => h4 kvs' k' l (by rw [k _ _ e] at e'; rw [e]; exact e') hv⟩
theorem IsWebF.old {C : Addr} {H0 H1 H : Hp} {x : Addr} {Ps : List Str} {T : List (Str × Str)} (h : IsWebF C H1 H x Ps T) (k : Keeps H0 H1) : IsWebF C H0 H x Ps T := by
  obtain ⟨pl, tl, nd, dx, vs, W, h1, h2, h3, h4⟩ := h
  exact ⟨pl, tl, nd, dx, vs, W, k.free h1, k.free h2, k.free h3, fun kvs' k' l e' hv => k.free (h4 kvs' k' l e' hv)⟩
theorem IsWebF.updL {C p : Addr} {H0 H : Hp} {x : Addr} {Ps : List Str} {T : List (Str × Str)} {o0 o : HO} {zs : List V} (h : IsWebF C H0 H x Ps T) (hp0 : H0 p = some o0) (hp : H p = some (.lst zs)) : IsWebF C H0 (L2.upd H p o) x Ps T := by
  obtain ⟨pl, tl, nd, dx, vs, W, h1, h2, h3, h4⟩ := h
  have ne : ∀ {a : Addr}, H0 a = none → a ≠ p := fun ha e => by rw [e, hp0] at ha; cases ha
  obtain ⟨kvs, e, hat, hk⟩ := W.nr
  exact ⟨pl, tl, nd, dx, vs, ⟨(upd_ne (fun z => by have := W.ob; rw [z, hp] at this; cases this)).trans W.ob, (upd_ne (ne h1)).trans W.pl_, (upd_ne (ne h2)).trans W.tl_, W.pt.keep fun t xs g => (upd_ne (fun z => by rw [z, hp] at g; cases g)).trans g, kvs, (upd_ne (ne h3)).trans e, fun y hy => (by
    obtain ⟨l, hv, hl⟩ := hat y hy
    exact ⟨l, hv, (upd_ne (ne (h4 kvs _ l e hv))).trans hl⟩), hk⟩, h1, h2, h3, fun kvs' k' l e' hv => h4 kvs' k' l ((upd_ne (ne h3)).symm.trans e') hv⟩
def spInW (C : Addr) : Sp := fun vs H Q _ => ∃ (x p t dx : Addr) (Ps : List Str) (E : List (Str × Str)), vs = [.ref x, .ref p, .ref t] ∧ H x = some (.ins C dx []) ∧ Args H p t Ps E ∧ Fit Ps E ∧ ∀ H', But x H H' → IsWebF C H H' x (sortS Ps) (sortP (E.map ordP)) → Q .non H'
def spWeb1 (C : Addr) (g : List Str → List (Str × Str) → Hp → VK → Prop) : Sp := fun vs H Q _ => ∃ x Ps T, vs = [.ref x] ∧ IsWeb C H x Ps T ∧ g Ps T H Q
def spWpl (C : Addr) : Sp := spWeb1 C fun Ps T H Q => ∀ l, H l = none → Q (.ref l) (L2.upd H l (.lst (Ps.map V.str)))
def spWti (C : Addr) : Sp := spWeb1 C fun Ps T H Q => ∀ l vs, H l = none → PT H T vs → Q (.ref l) (L2.upd H l (.lst vs))
def spWln (C : Addr) : Sp := spWeb1 C fun Ps T H Q => Q (.int Ps.length) H
/-- what the texts of a web are -/
structure WebOk (Ps : List Str) (T : List (Str × Str)) : Prop where
  ne : Ps ≠ []
  p20 : Ps.length ≤ 20
  t60 : T.length ≤ 60
  nd : Ps.Nodup
  nam : ∀ x ∈ Ps, Nam x
  inP : ∀ e ∈ T, e.1 ∈ Ps ∧ e.2 ∈ Ps
theorem Fit.ok {Ps : List Str} {E : List (Str × Str)} (F : Fit Ps E) : WebOk (sortS Ps) (sortP (E.map ordP)) :=
  ⟨fun z => F.ne (by have := (sortS_pm Ps).length_eq; rw [z] at this; exact List.length_eq_zero_iff.mp this.symm), by rw [(sortS_pm Ps).length_eq]; exact F.p20, by rw [(sortP_pm _).length_eq, List.length_map]; exact F.e60, (sortS_pm Ps).nodup_iff.mpr F.pnd, fun x hx => F.nam x ((sortS_pm Ps).mem_iff.mp hx), fun e he => by
    obtain ⟨e0, h0, rfl⟩ := List.mem_map.mp ((sortP_pm _).mem_iff.mp he)
    have := F.inP e0 h0
    have h2 : (ordP e0).1 ∈ Ps ∧ (ordP e0).2 ∈ Ps := by
      unfold ordP
      split
      · exact this
      · exact ⟨this.2, this.1⟩
    exact ⟨(sortS_pm Ps).mem_iff.mpr h2.1, (sortS_pm Ps).mem_iff.mpr h2.2⟩⟩
theorem Nam.ok {x : Str} (h : Nam x) : PyData.strOk x = true := by
  unfold PyData.strOk
  rw [← Array.all_toList, List.all_eq_true]
  intro c hc
  have := nm_mem h hc
  refine decide_eq_true ?_
  rcases this with h | h <;> omega
def spWeq (C : Addr) : Sp := fun vs H Q _ => ∃ x y Ps T Ps' T', vs = [.ref x, .ref y] ∧ IsWeb C H x Ps T ∧ IsWeb C H y Ps' T' ∧ WebOk Ps T ∧ WebOk Ps' T' ∧ Q (.bl (decide (Ps = Ps' ∧ T = T'))) H
theorem ordP_in {e : Str × Str} {Ps : List Str} (h : e.1 ∈ Ps ∧ e.2 ∈ Ps) : (ordP e).1 ∈ Ps ∧ (ordP e).2 ∈ Ps := by
  unfold ordP
  split
  · exact h
  · exact ⟨h.2, h.1⟩
section
variable {P : Program} {w : World} {K : PySem.W.Frag} {mg : Str → Option Value} {base : Heap}
theorem ok_iWeb {c_Web f f_checkplaces f_checkties f_checkrepeats f_orderedpair f_neartable : Addr} {fd fd_checkplaces fd_checkties fd_checkrepeats fd_orderedpair fd_neartable : FuncData} (B : Bi mg) (B_sorted : mg "sorted" = none)
    (F : Fun K "__init__" "Web.__init__" s_iWeb f fd) (CL_Web : Cls K c_Web) (NA_Web_places : NoAttr K c_Web "_places") (NA_Web_ties : NoAttr K c_Web "_ties") (NA_Web_near : NoAttr K c_Web "_near")
    (D_checkplaces : Dn K mg "check_places" s_checkplaces ["places"] f_checkplaces fd_checkplaces) (D_checkties : Dn K mg "check_ties" s_checkties ["places", "ties"] f_checkties fd_checkties) (D_checkrepeats : Dn K mg "check_repeats" s_checkrepeats ["places", "ties"] f_checkrepeats fd_checkrepeats)
    (D_orderedpair : Dn K mg "ordered_pair" s_orderedpair ["one", "two"] f_orderedpair fd_orderedpair) (D_neartable : Dn K mg "near_table" s_neartable ["places", "ties"] f_neartable fd_neartable)
    (G_checkplaces : FnOk P w K mg base CX0 2 f_checkplaces fd_checkplaces ["places"] spCkP) (G_checkties : FnOk P w K mg base CX0 2 f_checkties fd_checkties ["places", "ties"] spCkT) (G_checkrepeats : FnOk P w K mg base CX0 2 f_checkrepeats fd_checkrepeats ["places", "ties"] spCkT)
    (G_orderedpair : FnOk P w K mg base CX0 1 f_orderedpair fd_orderedpair ["one", "two"] spOrd) (G_neartable : FnOk P w K mg base CX0 2 f_neartable fd_neartable ["places", "ties"] spNear) : FnOk P w K mg base CX0 3 f fd ["self", "places", "ties"] (spInW c_Web) := by
  refine F.ok sc_iWeb (fun vs H Q E h => ?_) (fun cdv A outer s H vs Q E hr h => ?_)
  · obtain ⟨x, p, t, dx, Ps, E', rfl, _⟩ := h
    rfl
  · obtain ⟨x, p, t, dx, Ps, E', rfl, hx, AR, F, q⟩ := h
    refine ⟨_, (pss_cons (ps_expr (pe_call G_checkplaces (hr.mono (by omega)) (by rfl) D_checkplaces.g D_checkplaces.F.kp D_checkplaces.b .nil pass0 (pa_cons (pv 1) pa_nil)))
      (pss_cons (ps_expr (pe_call G_checkties (hr.mono (by omega)) (by rfl) D_checkties.g D_checkties.F.kp D_checkties.b .nil pass0 (pa_cons (pv 1) (pa_cons (pv 2) pa_nil))))
      (pss_cons (ps_expr (pe_call G_checkrepeats (hr.mono (by omega)) (by rfl) D_checkrepeats.g D_checkrepeats.F.kp D_checkrepeats.b .nil pass0 (pa_cons (pv 1) (pa_cons (pv 2) pa_nil))))
      (pss_cons (ps_fldC CL_Web NA_Web_places (pv 0) (pe_callB (call_sortedTK (K := K) (hu64 hr)) (by rfl) B_sorted (by decide +kernel) (pa_cons (pv 1) pa_nil)))
      (pss_cons (ps_fldC CL_Web NA_Web_ties (pv 0) (pe_callB (cr_sortedPK (K := K) (hu64 hr)) (by rfl) B_sorted (by decide +kernel) (pa_cons (pe_lc (own := [("one", 3), ("two", 4)]) (g := gTup K 2 (gCons (gName 3) (gCons (gName 4) gNil))) (tt := tYes) (by rfl) sc_iWeb.nd (pi_listK (K := K) (pv 2)) (blkOk_by (own := [("one", 3), ("two", 4)]) (N := ["self", "places", "ties", "one", "two"]) (sc := defScope s_iWeb) (by decide +kernel)) (fun _ _ _ _ _ => pg_tup (by rfl) (pgs_cons (pg_name (i := 3) sc_iWeb.nd rfl (Or.inl rfl)) (pgs_cons (pg_name (i := 4) sc_iWeb.nd rfl (Or.inl rfl)) pgs_nil))) (fun _ _ _ _ _ => pts_nil) (fun _ _ _ _ _ => (pe_call G_orderedpair (hr.mono (by omega)) (by rfl) D_orderedpair.g D_orderedpair.F.kp D_orderedpair.b .nil pass0 (pa_cons (pv 3) (pa_cons (pv 4) pa_nil))))) pa_nil)))
      (pss_one (ps_fldC CL_Web NA_Web_near (pv 0) (pe_call G_neartable (hr.mono (by omega)) (by rfl) D_neartable.g D_neartable.F.kp D_neartable.b .nil pass0 (pa_cons (pe_fldC CL_Web NA_Web_places (pv 0) (by rfl)) (pa_cons (pe_fldC CL_Web NA_Web_ties (pv 0) (by rfl)) pa_nil)))))))))), ?_⟩
    have px : p ≠ x := fun z => by have := AR.1; rw [z, hx] at this; cases this
    obtain ⟨hp, vs, ht, hpt⟩ := id AR
    have tx : t ≠ x := fun z => by rw [z, hx] at ht; cases ht
    walk_at "st"
    refine ⟨p, Ps, rfl, hp, F.ne, F.p20, F.nam, fun H1 k1 => ?_⟩
    walk_at "st"
    refine ⟨p, t, Ps, E', rfl, AR.keep k1, F, fun H2 k2 => ?_⟩
    walk_at "st"
    refine ⟨p, t, Ps, E', rfl, (AR.keep k1).keep k2, F, fun H3 k3 => ?_⟩
    have k03 := (k1.trans k2).trans k3
    have hx3 := k03 _ _ hx
    clear k1 k2 k3
    walk_at "st"
    refine ⟨Ps, sq_of (k03 _ _ hp), fun pl npl => ?_⟩
    have nx : x ≠ pl := ne_of_none hx3 npl
    refine ⟨dx, [], (upd_ne nx).trans hx3, by show 0 < 1000; omega, ?_⟩
    have b4 : But x H (L2.upd (L2.upd H3 pl (.lst ((sortS Ps).map V.str))) x (.ins c_Web dx (putF (Str.ofString "_places") (.ref pl) []))) := fun b o hb e => (upd_ne hb).trans (Keeps.new npl _ _ (k03 _ _ e))
    have x4 : L2.upd (L2.upd H3 pl (.lst ((sortS Ps).map V.str))) x (.ins c_Web dx (putF (Str.ofString "_places") (.ref pl) [])) x = some (.ins c_Web dx (putF (Str.ofString "_places") (.ref pl) [])) := upd_same
    have p4 : L2.upd (L2.upd H3 pl (.lst ((sortS Ps).map V.str))) x (.ins c_Web dx (putF (Str.ofString "_places") (.ref pl) [])) pl = some (.lst ((sortS Ps).map V.str)) := (upd_ne nx.symm).trans upd_same
    generalize L2.upd (L2.upd H3 pl (.lst ((sortS Ps).map V.str))) x (.ins c_Web dx (putF (Str.ofString "_places") (.ref pl) [])) = H4 at b4 x4 p4 ⊢
    walk_at "st"
    refine ⟨⟨_, sq_of (b4 _ _ tx ht)⟩, fun D nD => ?_⟩
    refine r_lcP vs (fun i H' => Keeps H4 H' ∧ ∃ ys, H' D = some (.lst ys) ∧ PT H' ((E'.take i).map ordP) ys) ⟨Keeps.new nD, [], upd_same, PT.nil⟩ (fun i H' _ h => sq_of (h.1 _ _ (b4 _ _ tx ht))) ?_ ?_
    · rintro i v H' hv ⟨k, ys, hD, hy⟩
      have hi : i < E'.length := by have := lt_of_get hv; have := hpt.1; omega
      have he := List.getElem?_eq_getElem hi
      generalize E'[i] = e0 at he
      obtain ⟨u, rfl, hu⟩ := hpt.2 i _ v he hv
      have ux : u ≠ x := fun z => by rw [z, hx] at hu; cases hu
      refine ⟨u, _, _, rfl, tup_at (k _ _ (b4 _ _ ux hu)), rfl, fun N kN => ?_⟩
      walk_at "rt"
      refine ⟨_, _, rfl, fun b nb => ?_⟩
      have h1 : ys.length ≤ 60 := by rw [hy.1, List.length_map, List.length_take]; have := F.e60; omega
      have D1 : L2.upd H' b (.tup [.str (ordP e0).1, .str (ordP e0).2]) D = some (.lst ys) := (upd_ne (ne_of_none hD nb)).trans hD
      have y1 : PT (L2.upd H' b (.tup [.str (ordP e0).1, .str (ordP e0).2])) ((E'.take (i + 1)).map ordP) (ys ++ [.ref b]) := by
        rw [take_snoc he, List.map_append]
        exact (hy.keeps (Keeps.new nb)).snoc upd_same
      exact kN (.ref b) _ ys D1 (size_ok (by omega)) ⟨(k.put (k.free nb)).put nD, _, upd_same, y1.upd D1 fun xs z => by cases z⟩
    · rintro H5 ⟨k5, ys, hD, hy⟩
      rw [show (E'.take vs.length).map ordP = E'.map ordP by rw [hpt.1, List.take_length]] at hy
      walk_at "rt"
      refine ⟨_, ys, sq_of hD, hy, fun y2 tl py ntl => ?_⟩
      have x5 := k5 _ _ x4
      have xtl : x ≠ tl := ne_of_none x5 ntl
      refine ⟨dx, _, (upd_ne xtl).trans x5, by rw [show (putF (Str.ofString "_places") (V.ref pl) []).length = 1 from rfl]; omega, ?_⟩
      have b6 : But x H (L2.upd (L2.upd H5 tl (.lst y2)) x (.ins c_Web dx (putF (Str.ofString "_ties") (.ref tl) (putF (Str.ofString "_places") (.ref pl) [])))) := fun b o hb e => (upd_ne hb).trans (Keeps.new ntl _ _ (k5 _ _ (b4 _ _ hb e)))
      have x6 : L2.upd (L2.upd H5 tl (.lst y2)) x (.ins c_Web dx (putF (Str.ofString "_ties") (.ref tl) (putF (Str.ofString "_places") (.ref pl) []))) x = some (.ins c_Web dx (putF (Str.ofString "_ties") (.ref tl) (putF (Str.ofString "_places") (.ref pl) []))) := upd_same
      have p6 : L2.upd (L2.upd H5 tl (.lst y2)) x (.ins c_Web dx (putF (Str.ofString "_ties") (.ref tl) (putF (Str.ofString "_places") (.ref pl) []))) pl = some (.lst ((sortS Ps).map V.str)) := (upd_ne nx.symm).trans ((Keeps.new ntl) _ _ (k5 _ _ p4))
      have t6 : L2.upd (L2.upd H5 tl (.lst y2)) x (.ins c_Web dx (putF (Str.ofString "_ties") (.ref tl) (putF (Str.ofString "_places") (.ref pl) []))) tl = some (.lst y2) := (upd_ne xtl.symm).trans upd_same
      have y6 : PT (L2.upd (L2.upd H5 tl (.lst y2)) x (.ins c_Web dx (putF (Str.ofString "_ties") (.ref tl) (putF (Str.ofString "_places") (.ref pl) [])))) (sortP (E'.map ordP)) y2 := (py.keeps (Keeps.new ntl)).upd ((upd_ne xtl).trans x5) fun xs z => by cases z
      generalize L2.upd (L2.upd H5 tl (.lst y2)) x (.ins c_Web dx (putF (Str.ofString "_ties") (.ref tl) (putF (Str.ofString "_places") (.ref pl) []))) = H6 at b6 x6 p6 t6 y6 ⊢
      walk_at "rt"
      have l1 : (putF (Str.ofString "_ties") (V.ref tl) (putF (Str.ofString "_places") (.ref pl) [])).lookup (Str.ofString "_places") = some (.ref pl) := by rw [lookup_putF, if_neg (by decide +kernel), lookup_putF, if_pos rfl]
      have l2 : (putF (Str.ofString "_ties") (V.ref tl) (putF (Str.ofString "_places") (.ref pl) [])).lookup (Str.ofString "_ties") = some (.ref tl) := by rw [lookup_putF, if_pos rfl]
      refine ⟨dx, _, x6, _, l1, dx, _, x6, _, l2, pl, tl, sortS Ps, sortP (E'.map ordP), rfl, ⟨p6, y2, t6, y6⟩, by rw [(sortS_pm Ps).length_eq]; exact F.p20, by rw [(sortP_pm _).length_eq, List.length_map]; exact F.e60, fun e he => ?_, fun nd H7 k7 nnd hnd hfr => ?_⟩
      · obtain ⟨e0, h0, rfl⟩ := List.mem_map.mp ((sortP_pm _).mem_iff.mp he)
        have := ordP_in (F.inP e0 h0)
        exact ⟨(sortS_pm Ps).mem_iff.mpr this.1, (sortS_pm Ps).mem_iff.mpr this.2⟩
      · have x7 := k7 _ _ x6
        have oldB : ∀ {Hm : Hp} {o : HO}, But x H Hm → Hm x = some o → ∀ a, Hm a = none → H a = none := fun {Hm o} b hxm a ha => by
          cases e : H a with
          | none => rfl
          | some o' =>
            have ax : a ≠ x := fun z => by rw [z, hxm] at ha; cases ha
            rw [b a o' ax e] at ha
            cases ha
        have ndx : nd ≠ x := fun z => by rw [z, x6] at nnd; cases nnd
        refine ⟨dx, _, x7, Nat.lt_of_le_of_lt (Nat.le_refl 2) (by omega), q _ (fun b o hb e => (upd_ne hb).trans (k7 _ _ (b6 _ _ hb e))) ⟨pl, tl, nd, dx, y2, ⟨upd_same, (upd_ne nx.symm).trans (k7 _ _ p6), (upd_ne xtl.symm).trans (k7 _ _ t6), (y6.keeps k7).upd x7 (fun xs z => by cases z), hnd.upd x7 (fun xs z => by cases z) (fun xs z => by cases z)⟩,
          k03.free npl, oldB b4 x4 _ (k5.free ntl), oldB b6 x6 _ nnd, fun kvs k l e hv => oldB b6 x6 _ (hfr kvs k l ((upd_ne ndx).symm.trans e) hv)⟩⟩
theorem ok_Wpl {c_Web f : Addr} {fd : FuncData} (B : Bi mg) (F : Fun K "places" "Web.places" s_mWeb_places f fd) (CL_Web : Cls K c_Web) (NA_Web_places : NoAttr K c_Web "_places") : FnOk P w K mg base CX0 1 f fd ["self"] (spWpl c_Web) := by
  refine F.ok sc_mWeb_places (fun vs H Q E h => ?_) (fun cdv A outer s H vs Q E hr h => ?_)
  · obtain ⟨x, Ps, T, rfl, _⟩ := h
    rfl
  · obtain ⟨x, Ps, T, rfl, ⟨pl, tl, nd, dx, ys, W⟩, q⟩ := h
    refine ⟨_, (pss_one (ps_ret (pe_callTy (call_listK (K := K)) (by rfl) B.list_ (by decide +kernel) (pa_cons (pe_fldC CL_Web NA_Web_places (pv 0) (by rfl)) pa_nil)))), ?_⟩
    walk_at "rt"
    exact ⟨dx, _, W.ob, _, webF_places _ _ _, pl, rfl, _, .inl (sq_of W.pl_), q⟩
theorem ok_Wti {c_Web f : Addr} {fd : FuncData} (B : Bi mg) (F : Fun K "ties" "Web.ties" s_mWeb_ties f fd) (CL_Web : Cls K c_Web) (NA_Web_ties : NoAttr K c_Web "_ties") : FnOk P w K mg base CX0 1 f fd ["self"] (spWti c_Web) := by
  refine F.ok sc_mWeb_ties (fun vs H Q E h => ?_) (fun cdv A outer s H vs Q E hr h => ?_)
  · obtain ⟨x, Ps, T, rfl, _⟩ := h
    rfl
  · obtain ⟨x, Ps, T, rfl, ⟨pl, tl, nd, dx, ys, W⟩, q⟩ := h
    refine ⟨_, (pss_one (ps_ret (pe_callTy (call_listK (K := K)) (by rfl) B.list_ (by decide +kernel) (pa_cons (pe_fldC CL_Web NA_Web_ties (pv 0) (by rfl)) pa_nil)))), ?_⟩
    walk_at "rt"
    exact ⟨dx, _, W.ob, _, webF_ties _ _ _, tl, rfl, _, .inl (sq_of W.tl_), fun l nl => q l ys nl W.pt⟩
theorem ok_Wln {c_Web f : Addr} {fd : FuncData} (B : Bi mg) (F : Fun K "__len__" "Web.__len__" s_mWeb_len f fd) (CL_Web : Cls K c_Web) (NA_Web_places : NoAttr K c_Web "_places") : FnOk P w K mg base CX0 1 f fd ["self"] (spWln c_Web) := by
  refine F.ok sc_mWeb_len (fun vs H Q E h => ?_) (fun cdv A outer s H vs Q E hr h => ?_)
  · obtain ⟨x, Ps, T, rfl, _⟩ := h
    rfl
  · obtain ⟨x, Ps, T, rfl, ⟨pl, tl, nd, dx, ys, W⟩, q⟩ := h
    refine ⟨_, (pss_one (ps_ret (pe_callB (call_lenXK (K := K)) (by rfl) B.len PySem.boot_len (pa_cons (pe_fldC CL_Web NA_Web_places (pv 0) (by rfl)) pa_nil)))), ?_⟩
    walk_at "rt"
    refine ⟨dx, _, W.ob, _, webF_places _ _ _, pl, rfl, _, .inl (sq_of W.pl_), ?_⟩
    rw [List.length_map]
    exact q
theorem ok_Wit {c_Web f : Addr} {fd : FuncData} (B : Bi mg) (B_iter : mg "iter" = none) (F : Fun K "__iter__" "Web.__iter__" s_mWeb_iter f fd) (CL_Web : Cls K c_Web) (NA_Web_places : NoAttr K c_Web "_places") : FnOkS P w K mg base CX0 1 f fd ["self"] (spIter K (WebR c_Web)) := by
  refine okS F sc_mWeb_iter (fun n vs H Q E h => ?_) (fun cdv A outer s H vs Q E hr h => ?_)
  · obtain ⟨x, l, zs, rfl, _⟩ := h
    rfl
  · obtain ⟨x, l, zs, rfl, ⟨tl, nd, dx, ob⟩, hz, q⟩ := h
    refine ⟨_, (pss_one (ps_ret (pe_callB ItX.call_iterN (by rfl) B_iter (by decide +kernel) (pa_cons (pe_fldC CL_Web NA_Web_places (pv 0) (by rfl)) pa_nil)))), ?_⟩
    walk_at "rt"
    exact ⟨dx, _, ob, _, webF_places _ _ _, l, rfl, ⟨zs, hz⟩, q⟩
end
/-! ### == of rows of texts and of pairs -/
theorem eqv_strs : ∀ a b : List Str, PyData.eqv (.list (a.map PyData.str)) (.list (b.map PyData.str)) = decide (a = b) := by
  have key : ∀ a b : List Str, PyData.eqvAll (a.map PyData.str) (b.map PyData.str) = decide (a = b) := by
    intro a
    induction a with
    | nil => intro b; cases b <;> rfl
    | cons x a ih =>
      intro b
      cases b with
      | nil => rfl
      | cons y b =>
        show ((x == y) && PyData.eqvAll (a.map PyData.str) (b.map PyData.str)) = _
        rw [ih]
        by_cases h : x = y <;> by_cases g : a = b <;> simp [h, g]
  intro a b
  exact key a b
theorem eqv_prs : ∀ a b : List (Str × Str), PyData.eqv (.list (a.map fun p => PyData.tuple [.str p.1, .str p.2])) (.list (b.map fun p => PyData.tuple [.str p.1, .str p.2])) = decide (a = b) := by
  have key : ∀ a b : List (Str × Str), PyData.eqvAll (a.map fun p => PyData.tuple [.str p.1, .str p.2]) (b.map fun p => PyData.tuple [.str p.1, .str p.2]) = decide (a = b) := by
    intro a
    induction a with
    | nil => intro b; cases b <;> rfl
    | cons x a ih =>
      intro b
      cases b with
      | nil => rfl
      | cons y b =>
        show (((x.1 == y.1) && ((x.2 == y.2) && true)) && PyData.eqvAll _ _) = _
        rw [ih]
        by_cases h : x = y
        · subst h
          by_cases g : a = b <;> simp [g]
        · have : ¬ (x.1 = y.1 ∧ x.2 = y.2) := fun z => h (Prod.ext z.1 z.2)
          by_cases h1 : x.1 = y.1 <;> by_cases h2 : x.2 = y.2 <;> simp_all
  intro a b
  exact key a b
theorem shaped_strs {a : List Str} (h : ∀ x ∈ a, PyData.strOk x = true) : SeqAt.shaped (.list (a.map PyData.str)) = true := by
  have h1 : ∀ a : List Str, (∀ x ∈ a, PyData.strOk x = true) → PyData.canLayAll0 (a.map PyData.str) = true := by
    intro a
    induction a with
    | nil => intro _; rfl
    | cons x a ih =>
      intro h
      show (PyData.strOk x && PyData.canLayAll0 (a.map PyData.str)) = true
      rw [h x List.mem_cons_self, ih fun y hy => h y (List.mem_cons_of_mem _ hy)]
      rfl
  have h2 : ∀ a : List Str, PyData.depthAll (a.map PyData.str) = 0 := by
    intro a
    induction a with
    | nil => simp [PyData.depthAll]
    | cons x a ih => simp [PyData.depthAll, PyData.depth, ih]
  unfold SeqAt.shaped
  rw [Bool.and_eq_true]
  refine ⟨h1 a h, decide_eq_true ?_⟩
  simp [PyData.depth, h2]
theorem shaped_prs {a : List (Str × Str)} (h : ∀ x ∈ a, PyData.strOk x.1 = true ∧ PyData.strOk x.2 = true) : SeqAt.shaped (.list (a.map fun p => PyData.tuple [.str p.1, .str p.2])) = true := by
  have h1 : ∀ a : List (Str × Str), (∀ x ∈ a, PyData.strOk x.1 = true ∧ PyData.strOk x.2 = true) → PyData.canLayAll0 (a.map fun p => PyData.tuple [.str p.1, .str p.2]) = true := by
    intro a
    induction a with
    | nil => intro _; rfl
    | cons x a ih =>
      intro h
      show ((PyData.strOk x.1 && (PyData.strOk x.2 && true)) && PyData.canLayAll0 _) = true
      rw [(h x List.mem_cons_self).1, (h x List.mem_cons_self).2, ih fun y hy => h y (List.mem_cons_of_mem _ hy)]
      rfl
  have h2 : ∀ a : List (Str × Str), PyData.depthAll (a.map fun p => PyData.tuple [.str p.1, .str p.2]) ≤ 1 := by
    intro a
    induction a with
    | nil => simp [PyData.depthAll]
    | cons x a ih =>
      simp only [List.map_cons, PyData.depthAll, PyData.depth]
      omega
  unfold SeqAt.shaped
  rw [Bool.and_eq_true]
  refine ⟨h1 a h, decide_eq_true ?_⟩
  have := h2 a
  simp only [PyData.depth]
  omega
theorem dp_strs {K : PySem.W.Frag} {H : Hp} : ∀ a : List Str, DpAll K H (a.map V.str) (a.map PyData.str)
  | [] => .nil
  | x :: a => .cons (.str x) (dp_strs a)
theorem dp_prs {K : PySem.W.Frag} {H : Hp} : ∀ {T : List (Str × Str)} {vs : List V}, PT H T vs → DpAll K H vs (T.map fun p => PyData.tuple [.str p.1, .str p.2])
  | [], [], _ => .nil
  | [], v :: vs, h => nomatch h.1
  | p :: T, [], h => nomatch h.1
  | p :: T, v :: vs, h => by
    obtain ⟨t, rfl, ht⟩ := h.2 0 p v rfl rfl
    exact .cons (.tup (tup_at ht) (.cons (.str _) (.cons (.str _) .nil))) (dp_prs ⟨Nat.succ.inj h.1, fun i q u h1 h2 => h.2 (i + 1) q u h1 h2⟩)
/-- isinstance of an own class is known -/
structure IsaC (K : PySem.W.Frag) (C : Addr) : Prop where
  cl : Cls K C
  ha : PySem.W.findIn K (.ref C) "__class__" = some (some (.builtin "object.__class__"))
  hn : PySem.W.specialIn K (.builtin "object.__class__") "__get__" = some (some (.builtin "getset_descriptor.__get__"))
  ht : PySem.W.takesIn K (.builtin "object.__class__") = some true
  hm : PySem.W.mroIn K C (.type "object") = some true
theorem IsaC.ty {K : PySem.W.Frag} {C a dx : Addr} {H : Hp} {fs : List (Str × V)} (h : IsaC K C) (e : H a = some (.ins C dx fs)) : TyOf K H (.ref a) (.ref C) := .ins e h.cl h.ha h.hn h.ht h.hm
theorem kit_self {K : PySem.W.Frag} {C : Addr} : PySem.W.kitOne K (.ref C) (.ref C) = some true := by
  unfold PySem.W.kitOne
  rw [if_pos (by simp)]
section
variable {P : Program} {w : World} {K : PySem.W.Frag} {mg : Str → Option Value} {base : Heap}
theorem ok_Weq {c_Web f : Addr} {fd : FuncData} (B : Bi mg) (F : Fun K "__eq__" "Web.__eq__" s_mWeb_eq f fd) (IC : IsaC K c_Web) (CL_Web : Cls K c_Web) (NA_Web_places : NoAttr K c_Web "_places") (NA_Web_ties : NoAttr K c_Web "_ties") (gc_Web : mg "Web" = some (.ref c_Web)) : FnOk P w K mg base CX0 2 f fd ["self", "other"] (spWeq c_Web) := by
  refine F.ok sc_mWeb_eq (fun vs H Q E h => ?_) (fun cdv A outer s H vs Q E hr h => ?_)
  · obtain ⟨x, y, Ps, T, Ps', T', rfl, _⟩ := h
    rfl
  · obtain ⟨x, y, Ps, T, Ps', T', rfl, ⟨pl, tl, nd, dx, ys, W⟩, ⟨pl', tl', nd', dx', ys', W'⟩, O, O', q⟩ := h
    refine ⟨_, (pss_one (ps_ret (pe_and (pe_callB (call_isC (K := K)) (by rfl) B.isinstance (by decide +kernel) (pa_cons (pv 1) (pa_cons (pe_glob (v := .ref c_Web) (by rfl) gc_Web rfl) pa_nil))) (pe_and (pe_cmpR (op_eqDK (K := K) (hu64 hr)) (pe_fldC CL_Web NA_Web_places (pv 0) (by rfl)) (pe_fldC CL_Web NA_Web_places (pv 1) (by rfl)) (nomark _)) (pe_one (pe_cmpR (op_eqDK (K := K) (hu64 hr)) (pe_fldC CL_Web NA_Web_ties (pv 0) (by rfl)) (pe_fldC CL_Web NA_Web_ties (pv 1) (by rfl)) (nomark _))))))), ?_⟩
    walk_at "rt"
    have sP : ∀ {Ps : List Str} {T : List (Str × Str)}, WebOk Ps T → SeqAt.shaped (.list (Ps.map PyData.str)) = true := fun O => shaped_strs fun x hx => (O.nam x hx).ok
    have sT : ∀ {Ps : List Str} {T : List (Str × Str)}, WebOk Ps T → SeqAt.shaped (.list (T.map fun p => PyData.tuple [.str p.1, .str p.2])) = true := fun O => shaped_prs fun e he => ⟨(O.nam _ (O.inP e he).1).ok, (O.nam _ (O.inP e he).2).ok⟩
    refine ⟨_, IC.ty W'.ob, true, kit_self, ?_⟩
    simp only [if_true]
    refine ⟨dx, _, W.ob, _, webF_places _ _ _, dx', _, W'.ob, _, webF_places _ _ _, _, .lst (sq_of W.pl_) (dp_strs Ps), _, .lst (sq_of W'.pl_) (dp_strs Ps'), sP O, sP O', ?_⟩
    rw [eqv_strs]
    by_cases hP : Ps = Ps'
    · rw [if_pos (decide_eq_true hP)]
      refine ⟨dx, _, W.ob, _, webF_ties _ _ _, dx', _, W'.ob, _, webF_ties _ _ _, _, .lst (sq_of W.tl_) (dp_prs W.pt), _, .lst (sq_of W'.tl_) (dp_prs W'.pt), sT O, sT O', ?_⟩
      rw [eqv_prs]
      rw [show (decide (Ps = Ps' ∧ T = T')) = decide (T = T') by simp [hP]] at q
      exact q
    · rw [if_neg (by simp [hP])]
      rw [show (decide (Ps = Ps' ∧ T = T')) = false by simp [hP]] at q
      exact q
end
end K01
/-! an own class whose __init__ may raise -/
namespace WX
open PySem PySem.Spec PyProof.Rows L2 HotExc
def tMakeS (C : Addr) (sp : Sp) (E : L2.St → XK) (t : TA) : TE := fun σ H Q => t σ H fun vs H1 => ∀ x dx, H1 x = none → H1 dx = none → dx ≠ x → sp (.ref x :: vs) (L2.upd (L2.upd H1 dx (.own x)) x (.ins C dx [])) (fun v H2 => v = .non ∧ Q (.ref x) H2) (E σ)
theorem pe_makeS {X : Cx} {CX : CXT} {k : Nat} {C f : Addr} {fd : FuncData} {ps : List Str} {sp : Sp} {E : L2.St → XK} {nm : Str} {p pos : Pos} {e : Expr} {es : List Expr} {t : TA}
    (M : Mk X.K C f) (G : FnOk X.prog X.w X.K X.mg X.base CX k f fd ps sp) (room : Room (k + 1) X.A) (gl : Gl X nm) (gm : X.mg nm = some (.ref C)) (bd : Binds X.K fd ps []) (out : ∀ σ, PassesAt CX X σ (E σ))
    (args : PA X (e :: es) t) (dbg : (nm == ("__debug__" : Str)) = false := by decide) (st : starEach (e :: es) X.env = (false, eval e X.env) :: starEach es X.env := by rfl) (pln : (backTo pos (starEach es X.env)).any (·.1) = false := by rfl) :
    PE X (.Call (.Name nm p) (e :: es) [] pos) (tMakeS C sp E t) := by
  refine ⟨fun pins s σ H Q I want => wpAny_Call_Name_kw (ld_glob I gl gm ?_ dbg)⟩
  refine PySem.W.callWith_K (h₀ := X.base) I.ok.mod.kin M.kp (thn (args.run pos pins s σ H _ I want) fun us s1 got => ?_) st pln
  obtain ⟨vs, H1, I1, r, q⟩ := got
  refine ⟨I1.kIn, ?_⟩
  have fresh := q (s1.heap.objs.size + 1) s1.heap.objs.size (I1.hok.fresh (Nat.le_succ _)) (I1.hok.fresh (Nat.le_refl _)) (Nat.ne_of_lt (Nat.lt_succ_self _))
  have J := Inv.made (C := C) I1
  have rr : Vals (V.ref (s1.heap.objs.size + 1) :: vs) (Value.ref (s1.heap.objs.size + 1) :: (us ++ [])) := .cons rfl (by rw [List.append_nil]; exact r)
  have hl : (Value.ref (s1.heap.objs.size + 1) :: us ++ []).length = ps.length := by
    have e1 := rr.length
    rw [G.len _ _ _ _ fresh] at e1
    exact e1.symm
  have bb := bd _ (Value.ref (s1.heap.objs.size + 1) :: us) J.kIn hl
  rw [List.cons_append] at bb
  refine wpAny_call (make_map (f := f) I1.kIn M.makes M.init (beq_iff_eq.mp M.fn) (codeAny_mono (G.run _ X.stack _ _ ⟨Value.ref (s1.heap.objs.size + 1) :: us, []⟩ (Value.ref (s1.heap.objs.size + 1) :: (us ++ [])) _ _ (E σ) (room.make C us [])
    (J.env0.make C us []) bb rr fresh) fun res s' back => ?_))
  match res, back with
  | .error x, back => exact out σ pins _ _ x s' J back
  | .ok (.ret u), back =>
    obtain ⟨v, H', J2, rv, ev, q3⟩ := J.after back
    subst ev
    exact ⟨rv, ⟨V.ref (s1.heap.objs.size + 1), H', J2, rfl, q3⟩⟩
  | .ok .next, back => exact back.elim
  | .ok .brk, back => exact back.elim
  | .ok .cont, back => exact back.elim
end WX
namespace K01
open PySem PySem.Spec PyProof.Rows L2 TL HotExc Tw WX
local macro_rules | `(tactic| walk_at "rd") => `(tactic| simp only [start1, wipe, isR, isBool, isInt, isStr, isLst, isTup, tAsg, gName, gSub, tVar, tC, tOp, tUn, tTest, tIfS, tRet, tRetN, tDrop, tB, tAnd, tOr, tNot, tAndV, tOrV, tNotV, tIf, tCB, tCons, tNil, tNext, tCall, tBM, tTup, tLst, rU, rInW, rNinW, Int.reduceNeg, tG, tG2, sP, tFldC, sFldC, tProp, tMeth, tMake, rOwnC, rLenO, rIsC, rNoT, tAddT, tSAddK, rSAddK, rSInK, rSet0K, rSet0T, rMinS, rMaxS, rSortedQ, rSortedT, rEqD, rNeD, rIxD, dcL_eq, dcZ_eq, lcO_eq, forE_eq, forT_eq, lcS_eq, ItX.rIterN, iOwn, List.append_nil, tDisp, tPairs, tCallS, tCallSD, tCallT, StX.tStar, tCallK, tCallKS, rTupOf, tDrop, rI0, rI, rEq, rNe, scal, forR_eq, forR2_eq, forS_eq, forL_eq, lcT_eq, lcRT_eq, lcS_eq, rLenX, rLenS, rListOf, tRevL, rMulS, rRepL, rCatL, rSumN, rMaxN, tBM0, rPop, tAug, ipI,  tPart, tNoPart, CwR.tReplC, rAllK, rInSg, rNinSg, sgn_inj, rAddS, rInSt, tChain, tM1, tM0, rSplitN, rJoinN, exists_eq, rIntI, rIntB, rIntS, rStrI, rAbs, rOrd, rMin, rMax, rIxL, rIxX, rSetL, rAppend, rIxS, rSlS, rSlL, tSl, List.map_cons, List.map_nil, List.replicate_succ, List.replicate_zero, List.length_cons, List.length_nil, Nat.reduceSub, Nat.reduceAdd, Nat.zero_add, Nat.sub_self, List.getElem?_cons_zero, List.getElem?_cons_succ, List.set_cons_zero, List.set_cons_succ, List.append_nil, List.nil_append, List.cons_append, Option.some.injEq, not_true_eq_false, reduceCtorEq, exists_eq_left', exists_eq_left, exists_eq', exists_and_left, exists_and_right, V.int.injEq, V.str.injEq, V.bl.injEq, V.ref.injEq, List.cons.injEq, and_true, true_and, and_assoc, decide_eq_true_eq, Bool.not_eq_true', decide_eq_false_iff_not, ite_true, ite_false, if_true, if_false, Bool.not_true, Bool.not_false, Bool.false_eq_true, eq_self_iff_true, reduceIte, ne_eq, Int.reduceEq, not_false_eq_true])
local macro_rules | `(tactic| walk_at "rt") => `(tactic| try walk_at "rd")
local macro_rules | `(tactic| walk_at "st") => `(tactic| (walk_at "rt"; refine r_seq ?_; walk_at "rt"))
local macro_rules | `(tactic| walk_at "hp") => `(tactic| first | assumption | exact upd_same | (rw [upd_ne (by assumption)]; walk_at "hp"))
local macro_rules | `(tactic| walk_at "ex1") => `(tactic| ((with_reducible refine Exists.intro ?w (And.intro ?hx ?_)); (case hx => first | exact sq_of (by walk_at "hp") | exact .inl (sq_of (by walk_at "hp")) | exact rfl | (show _ = some (HO.lst _); walk_at "hp"))))
local macro_rules | `(tactic| walk_at "ex") => `(tactic| repeat (first | walk_at "ex1" | walk_at "rd"))
abbrev s_checksigns : Stmt := topS 48
theorem sc_checksigns : FnScope ["signs", "many", "at", "sign"] ["signs", "many"] (defScope s_checksigns) := ⟨rfl, rfl, rfl, by decide +kernel, rfl, by decide +kernel, by decide +kernel⟩
abbrev s_iBoard : Stmt := clsS 47 0
theorem sc_iBoard : FnScope ["self", "web", "signs", "place", "sign"] ["self", "web", "signs"] (defScope s_iBoard) := ⟨rfl, rfl, rfl, by decide +kernel, rfl, by decide +kernel, by decide +kernel⟩





def sgn (c : Nat) : Prop := c = 46 ∨ c = 100 ∨ c = 108
/-- one sign for each of so many places -/
structure SgOk (n : Nat) (sg : Str) : Prop where
  len : (tl sg).length = n
  al : ∀ c ∈ tl sg, sgn c
def signs3 : List Str := [Str.ofString ".", Str.ofString "d", Str.ofString "l"]
theorem sgn_mem {c : Nat} (h : sgn c) : (⟨#[c]⟩ : Str) ∈ signs3 := by
  rcases h with rfl | rfl | rfl <;> decide +kernel
/-- the first index at which signs depart from one sign for each of n places -/
structure Dpt (n : Nat) (cs : List Nat) (d : Nat) : Prop where
  le : d ≤ cs.length
  lo : ∀ (j : Nat) c, j < d → cs[j]? = some c → j < n ∧ sgn c
  hi : ∀ c, cs[d]? = some c → ¬ (d < n ∧ sgn c)
theorem Dpt.uniq {n d e : Nat} {cs : List Nat} (h : Dpt n cs d) (g : Dpt n cs e) : d = e := by
  rcases Nat.lt_trichotomy d e with l | l | l
  · have hd : d < cs.length := Nat.lt_of_lt_of_le l g.le
    exact absurd (g.lo d _ l (List.getElem?_eq_getElem hd)) (h.hi _ (List.getElem?_eq_getElem hd))
  · exact l
  · have hd : e < cs.length := Nat.lt_of_lt_of_le l h.le
    exact absurd (h.lo e _ l (List.getElem?_eq_getElem hd)) (g.hi _ (List.getElem?_eq_getElem hd))
theorem Dpt.ok {n : Nat} {sg : Str} (h : Dpt n (tl sg) (tl sg).length) (e : (tl sg).length = n) : SgOk n sg := ⟨e, fun c hc => by
  obtain ⟨j, hj⟩ := List.getElem?_of_mem hc
  exact (h.lo j c (lt_of_get hj) hj).2⟩
theorem Dpt.of {n : Nat} {sg : Str} (h : SgOk n sg) : Dpt n (tl sg) (tl sg).length := ⟨Nat.le_refl _, fun j c hj hc => ⟨by have := h.len; omega, h.al c (List.mem_of_getElem? hc)⟩, fun c hc => absurd (lt_of_get hc) (Nat.lt_irrefl _)⟩
theorem mem_sgn {c : Nat} (h : (⟨#[c]⟩ : Str) ∈ signs3) : sgn c := by
  simp only [signs3, List.mem_cons, List.not_mem_nil, or_false] at h
  have e : ∀ d : Nat, (⟨#[c]⟩ : Str) = ⟨#[d]⟩ → c = d := fun d h => by injection h with h; injection h with h; injection h
  rcases h with h | h | h
  · exact .inl (e 46 h)
  · exact .inr (.inl (e 100 h))
  · exact .inr (.inr (e 108 h))
def NoAt (C : Addr) (d : Nat) (H : Hp) (E : XK) : Prop := ∀ dx, H dx = none → E (.ref C) (some dx) (L2.upd H dx (.xd [(("at" : Str), .int d)]))
def spCkS (CS : Addr) : Sp := fun vs H Q E => ∃ (sg : Str) (n : Nat), vs = [.str sg, .int n] ∧ n ≤ 20 ∧ (tl sg).length ≤ 1000 ∧ (SgOk n sg → ∀ H', Keeps H H' → Q .non H') ∧ (∀ d, ¬ SgOk n sg → Dpt n (tl sg) d → ∀ H', Keeps H H' → NoAt CS d H' E)
def boardF (w : Addr) (sg : Str) (d : Addr) : List (Str × V) := putF (Str.ofString "_sign_at") (.ref d) (putF (Str.ofString "_signs") (.str sg) (putF (Str.ofString "_web") (.ref w) []))
theorem boardF_web (w : Addr) (sg : Str) (d : Addr) : (boardF w sg d).lookup (Str.ofString "_web") = some (.ref w) := by
  unfold boardF
  rw [lookup_putF, if_neg (by decide +kernel), lookup_putF, if_neg (by decide +kernel), lookup_putF, if_pos rfl]
theorem boardF_signs (w : Addr) (sg : Str) (d : Addr) : (boardF w sg d).lookup (Str.ofString "_signs") = some (.str sg) := by
  unfold boardF
  rw [lookup_putF, if_neg (by decide +kernel), lookup_putF, if_pos rfl]
theorem boardF_at (w : Addr) (sg : Str) (d : Addr) : (boardF w sg d).lookup (Str.ofString "_sign_at") = some (.ref d) := by
  unfold boardF
  rw [lookup_putF, if_pos rfl]
theorem boardF_no (w : Addr) (sg : Str) (d : Addr) : (boardF w sg d).lookup (Str.ofString "bearing") = none := by
  unfold boardF
  rw [lookup_putF, if_neg (by decide +kernel), lookup_putF, if_neg (by decide +kernel), lookup_putF, if_neg (by decide +kernel)]
  rfl
structure BoardAt (CW CB : Addr) (H : Hp) (b w d dx : Addr) (kvs : List (Key × V)) (Ps : List Str) (T : List (Str × Str)) (sg : Str) : Prop where
  ob : H b = some (.ins CB dx (boardF w sg d))
  web : IsWeb CW H w Ps T
  tab : H d = some (.dK kvs)
  val : ∀ (i : Nat) x c, Ps[i]? = some x → (tl sg)[i]? = some c → valV kvs (Sum.inr x) = some (.str ⟨#[c]⟩)
  dom : ∀ k v, valV kvs k = some v → ∃ x ∈ Ps, k = Sum.inr x
  ok : WebOk Ps T
  sg : SgOk Ps.length sg
def IsBoard (CW CB : Addr) (H : Hp) (b : Addr) (Ps : List Str) (T : List (Str × Str)) (sg : Str) : Prop := ∃ w d dx kvs, BoardAt CW CB H b w d dx kvs Ps T sg
theorem BoardAt.keep {CW CB : Addr} {H H' : Hp} {b w d dx : Addr} {kvs : List (Key × V)} {Ps : List Str} {T : List (Str × Str)} {sg : Str} (h : BoardAt CW CB H b w d dx kvs Ps T sg) (k : Keeps H H') : BoardAt CW CB H' b w d dx kvs Ps T sg := ⟨k _ _ h.ob, h.web.keep k, k _ _ h.tab, h.val, h.dom, h.ok, h.sg⟩
theorem IsBoard.keep {CW CB : Addr} {H H' : Hp} {b : Addr} {Ps : List Str} {T : List (Str × Str)} {sg : Str} (h : IsBoard CW CB H b Ps T sg) (k : Keeps H H') : IsBoard CW CB H' b Ps T sg := let ⟨w, d, dx, kvs, h⟩ := h; ⟨w, d, dx, kvs, h.keep k⟩
def spInB (CW CB CS : Addr) : Sp := fun vs H Q E => ∃ (x w dx : Addr) (Ps : List Str) (T : List (Str × Str)) (sg : Str), vs = [.ref x, .ref w, .str sg] ∧ H x = some (.ins CB dx []) ∧ IsWeb CW H w Ps T ∧ WebOk Ps T ∧ (tl sg).length ≤ 1000 ∧ (SgOk Ps.length sg → ∀ H', But x H H' → (∃ d dx kvs, BoardAt CW CB H' x w d dx kvs Ps T sg) → Q .non H') ∧ (∀ d, ¬ SgOk Ps.length sg → Dpt Ps.length (tl sg) d → ∀ H', Keeps H H' → NoAt CS d H' E)
theorem WebAt.but {C CB : Addr} {H H' : Hp} {wb pl tl nd dx x dy : Addr} {Ps : List Str} {T : List (Str × Str)} {vs : List V} {fs : List (Str × V)} (h : WebAt C H wb pl tl nd dx Ps T vs) (k : But x H H') (hx : H x = some (.ins CB dy fs)) (n : wb ≠ x) : WebAt C H' wb pl tl nd dx Ps T vs :=
  ⟨k _ _ n h.ob, k _ _ (fun z => by have := h.pl_; rw [z, hx] at this; cases this) h.pl_, k _ _ (fun z => by have := h.tl_; rw [z, hx] at this; cases this) h.tl_, h.pt.keep fun t xs e => k _ _ (fun z => by rw [z, hx] at e; cases e) e, h.nr.but k (fun p xs e z => by rw [z, hx] at e; cases e) (fun p kvs e z => by rw [z, hx] at e; cases e)⟩
section
variable {P : Program} {w : World} {K : PySem.W.Frag} {mg : Str → Option Value} {base : Heap}
theorem ok_cks {CS fS f t_SIGNS : Addr} {fdS fd : FuncData} (B : Bi mg) (B_enumerate : mg "enumerate" = none) (D : Dn K mg "check_signs" s_checksigns ["signs", "many"] f fd) (gc_SIGNS : mg "SIGNS" = some (.ref t_SIGNS)) (atS : ∀ H, SqT K H t_SIGNS (signs3.map V.str))
    (X_BadSigns : Exn K mg "BadSigns" CS fS) (BI_BadSigns : Binds K fdS ["self", "at"] []) (GI_BadSigns : FnOk P w K mg base CX0 1 fS fdS ["self", "at"] (spIni1 CS "at")) : FnOk P w K mg base (L2N.CX P w) 3 f fd ["signs", "many"] (spCkS CS) := by
  refine okN D.F sc_checksigns (fun vs H Q E h => ?_) (fun cdv A outer s H vs Q E hr h => ?_)
  · obtain ⟨sg, n, rfl, _⟩ := h
    rfl
  · obtain ⟨sg, n, rfl, hn, few, q1, q2⟩ := h
    refine ⟨_, (pss_cons (ps_for PassesOwn.leaving rfl (pi_enumS (by rfl) B_enumerate (pa_cons (pv 0) pa_nil)) (pg_tupK (K := K) (n := 2) (by rfl) (pgs_cons (pg_name (i := 2) sc_checksigns.nd rfl (.inl rfl)) (pgs_cons (pg_name (i := 3) sc_checksigns.nd rfl (.inl rfl)) pgs_nil))) (pss_one (ps_if (PW.pt (pw_or (pt_cmpR op_ge (pv 2) (pv 1) (nomark _)) (pw_or1 (pt_cmpR (op_ninW (K := K)) (pv 3) (pe_glob (v := .ref t_SIGNS) (by rfl) gc_SIGNS rfl) (by rfl))))) (pss_one (L2N.ps_raise rfl (L2N.takes_of rfl rfl rfl rfl) (pmkN X_BadSigns.oex X_BadSigns.ini X_BadSigns.fn GI_BadSigns (hr.mono (by omega)) BI_BadSigns pass0 (by rfl) X_BadSigns.g (pa_cons (pv 2) pa_nil)))) pss_nil)))
      (pss_one (ps_if (pt_cmpR op_lt (pe_callB call_lenS (by rfl) B.len PySem.boot_len (pa_cons (pv 0) pa_nil)) (pv 1) (nomark _)) (pss_one (L2N.ps_raise rfl (L2N.takes_of rfl rfl rfl rfl) (pmkN X_BadSigns.oex X_BadSigns.ini X_BadSigns.fn GI_BadSigns (hr.mono (by omega)) BI_BadSigns pass0 (by rfl) X_BadSigns.g (pa_cons (pe_callB call_lenS (by rfl) B.len PySem.boot_len (pa_cons (pv 0) pa_nil)) pa_nil)))) pss_nil))), ?_⟩
    have hlen : sg.length = (tl sg).length := len_tl sg
    walk_at "st"
    refine r_enumS (K := K) sg (fun i σ H' => (∃ b c, σ = [some (.str sg), some (.int n), b, c]) ∧ (∀ (j : Nat) c, j < i → (tl sg)[j]? = some c → j < n ∧ sgn c) ∧ Keeps H H') ⟨⟨_, _, rfl⟩, fun j c h => absurd h (Nat.not_lt_zero _), Keeps.refl H⟩ (fun i σ H' t x y h nt => ⟨h.1, h.2.1, h.2.2.trans (Keeps.new nt)⟩) ?_ ?_
    · rintro i c σ H' hc ⟨⟨b, c', rfl⟩, lo, k⟩ N kk
      have hi : i < (tl sg).length := lt_of_get hc
      have hc : (tl sg)[i]? = some c := hc
      have bad : ¬ (i < n ∧ sgn c) → NoAt CS i H' E := fun hb => q2 i (fun O => hb ⟨by have := O.len; omega, O.al c (List.mem_of_getElem? hc)⟩) ⟨Nat.le_of_lt hi, lo, fun c2 h2 => by rw [hc] at h2; cases h2; exact hb⟩ H' k
      walk_at "rt"
      refine ite2 (fun h => ⟨_, rfl, mk1 (bad fun g => by omega)⟩) (fun h => ⟨signs3, .inr (atS H'), ite2 (fun h2 => ⟨_, rfl, mk1 (bad fun g => h2 (sgn_mem g.2))⟩) (fun h2 => kk _ _ ⟨⟨_, _, rfl⟩, fun j c2 hj h3 => ?_, k⟩)⟩)
      rcases Nat.lt_succ_iff_lt_or_eq.mp hj with hj | rfl
      · exact lo j c2 hj h3
      · rw [hc] at h3
        cases h3
        exact ⟨by omega, mem_sgn (Classical.not_not.mp h2)⟩
    · rintro σ H' ⟨⟨b, c, rfl⟩, lo, k⟩
      have lo : ∀ (j : Nat) c, j < (tl sg).length → (tl sg)[j]? = some c → j < n ∧ sgn c := lo
      have dp : Dpt n (tl sg) (tl sg).length := ⟨Nat.le_refl _, lo, fun c hc => absurd (lt_of_get hc) (Nat.lt_irrefl _)⟩
      walk_at "rt"
      refine ⟨line_of (by omega), ite2 (fun h => ?_) (fun h => q1 (dp.ok ?_) H' k)⟩
      · unfold tMkO
        walk_at "rt"
        refine ⟨line_of (by omega), ?_⟩
        rw [hlen]
        have m := mk1 (q2 _ (fun O => by have := O.len; omega) dp H' k)
        simpa only [List.cons_append, List.nil_append, List.append_nil, exists_and_left, List.length_cons, List.length_nil, Nat.zero_add] using m
      · have : (tl sg).length ≤ n := Classical.byContradiction fun g => by
          have := (lo n _ (by omega) (List.getElem?_eq_getElem (by omega))).1
          omega
        omega
theorem ok_iBoard {c_Web c_Board CS f f_checksigns f_Wln f_Wit : Addr} {fd fd_checksigns fd_Wln fd_Wit : FuncData} (B : Bi mg) (B_zip : mg "zip" = none) (F : Fun K "__init__" "Board.__init__" s_iBoard f fd) (CL_Board : Cls K c_Board) (NA_Board_web : NoAttr K c_Board "_web") (NA_Board_signs : NoAttr K c_Board "_signs") (NA_Board_sign_at : NoAttr K c_Board "_sign_at")
    (D_checksigns : Dn K mg "check_signs" s_checksigns ["signs", "many"] f_checksigns fd_checksigns) (G_checksigns : FnOk P w K mg base (L2N.CX P w) 3 f_checksigns fd_checksigns ["signs", "many"] (spCkS CS)) (SM_mWeb_len : Sm K c_Web "__len__" f_Wln) (G_mWeb_len : FnOk P w K mg base CX0 1 f_Wln fd_Wln ["self"] (spWln c_Web)) (B_mWeb_len : Binds K fd_Wln ["self"] [])
    (SM_mWeb_iter : Sm K c_Web "__iter__" f_Wit) (GS_mWeb_iter : FnOkS P w K mg base CX0 1 f_Wit fd_Wit ["self"] (spIter K (WebR c_Web))) (B_mWeb_iter : Binds K fd_Wit ["self"] []) : FnOk P w K mg base (L2N.CX P w) 6 f fd ["self", "web", "signs"] (spInB c_Web c_Board CS) := by
  refine okN F sc_iBoard (fun vs H Q E h => ?_) (fun cdv A outer s H vs Q E hr h => ?_)
  · obtain ⟨x, wb, dx, Ps, T, sg, rfl, _⟩ := h
    rfl
  · obtain ⟨x, wb, dx, Ps, T, sg, rfl, hx, W, O, few, q, q2⟩ := h
    refine ⟨_, (pss_cons (ps_expr (pe_callS G_checksigns (hr.mono (by omega)) rfl D_checksigns.g D_checksigns.F.kp D_checksigns.b (fun σ => L2N.passAt (L2N.takes_of rfl rfl rfl rfl) σ) (pa_cons (pv 2) (pa_cons (pe_callB (call_lenO SM_mWeb_len G_mWeb_len (hr.mono (by omega)) B_mWeb_len pass0) (by rfl) B.len PySem.boot_len (pa_cons (pv 1) pa_nil)) pa_nil))))
      (pss_cons (ps_fldC CL_Board NA_Board_web (pv 0) (pv 1))
      (pss_cons (ps_fldC CL_Board NA_Board_signs (pv 0) (pv 2))
      (pss_one (ps_fldC CL_Board NA_Board_sign_at (pv 0) (pe_dc (own := [("place", 3), ("sign", 4)]) (g := (gTup K 2 (gCons (gName 3) (gCons (gName 4) gNil)))) (tt := tYes) (by rfl) sc_iBoard.nd (pi_zipOK (K := K) SM_mWeb_iter GS_mWeb_iter (hr.mono (by omega)) B_mWeb_iter pass0 (by rfl) B_zip (pa_cons (pv 1) (pa_cons (pv 2) pa_nil))) (blkOk_by (own := [("place", 3), ("sign", 4)]) (N := ["self", "web", "signs", "place", "sign"]) (sc := defScope s_iBoard) (by decide +kernel)) (fun _ _ _ _ _ => (pg_tup (by rfl) (pgs_cons (pg_name (i := 3) sc_iBoard.nd rfl (Or.inl rfl)) (pgs_cons (pg_name (i := 4) sc_iBoard.nd rfl (Or.inl rfl)) pgs_nil)))) (fun _ _ _ _ _ => pts_nil) (fun _ _ _ _ _ => (pv 3)) (fun _ _ _ _ _ => (pv 4)))))))), ?_⟩
    obtain ⟨pl, tl', nd, dxw, ys, W⟩ := W
    walk_at "st"
    have h20 := O.p20
    refine ⟨⟨_, _, W.ob⟩, wb, Ps, T, rfl, ⟨pl, tl', nd, dxw, ys, W⟩, Ps.length, rfl, by omega, sg, Ps.length, rfl, O.p20, few, fun S0 H1 k1 => ?_, q2⟩
    have hlP : (Ps.map V.str).length = sg.cps.toList.length := by rw [List.length_map]; exact S0.len.symm
    have W1 := W.keep k1
    have x1 := k1 _ _ hx
    have nwx : wb ≠ x := fun z => by
      have := W.ob
      rw [z, hx] at this
      have e : ([] : List (Str × V)) = webF pl tl' nd := by
        injection this with this
        injection this
      have l := webF_places pl tl' nd
      rw [← e] at l
      cases l
    have but : ∀ (H' : Hp) o, But x H' (L2.upd H' x o) := fun H' o b u hb e => (upd_ne hb).trans e
    walk_at "st"
    refine ⟨dx, [], x1, by show 0 < 1000; omega, ?_⟩
    have b2 := (Keeps.but (a := x) k1).trans (but H1 (.ins c_Board dx (putF (Str.ofString "_web") (.ref wb) [])))
    have x2 : L2.upd H1 x (.ins c_Board dx (putF (Str.ofString "_web") (.ref wb) [])) x = some (.ins c_Board dx (putF (Str.ofString "_web") (.ref wb) [])) := upd_same
    have W2 := W1.but (but H1 (.ins c_Board dx (putF (Str.ofString "_web") (.ref wb) []))) x1 nwx
    generalize L2.upd H1 x (.ins c_Board dx (putF (Str.ofString "_web") (.ref wb) [])) = H2 at b2 x2 W2 ⊢
    walk_at "st"
    refine ⟨dx, _, x2, Nat.lt_of_le_of_lt (Nat.le_refl 1) (by omega), ?_⟩
    have b3 := b2.trans (but H2 (.ins c_Board dx (putF (Str.ofString "_signs") (.str sg) (putF (Str.ofString "_web") (.ref wb) []))))
    have x3 : L2.upd H2 x (.ins c_Board dx (putF (Str.ofString "_signs") (.str sg) (putF (Str.ofString "_web") (.ref wb) []))) x = some (.ins c_Board dx (putF (Str.ofString "_signs") (.str sg) (putF (Str.ofString "_web") (.ref wb) []))) := upd_same
    have W3 := W2.but (but H2 (.ins c_Board dx (putF (Str.ofString "_signs") (.str sg) (putF (Str.ofString "_web") (.ref wb) [])))) x2 nwx
    generalize L2.upd H2 x (.ins c_Board dx (putF (Str.ofString "_signs") (.str sg) (putF (Str.ofString "_web") (.ref wb) []))) = H3 at b3 x3 W3 ⊢
    clear x1 x2 W1 W2 b2
    walk_at "rt"
    refine ⟨⟨_, _, W3.ob⟩, pl, ⟨_, _, _, W3.ob⟩, ⟨_, sq_of W3.pl_⟩, ⟨_, W3.pl_⟩, fun D nD => ?_⟩
    refine r_dcZ (Ps.map V.str) sg hlP (fun i H' => Keeps H3 H' ∧ ∃ kvs, H' D = some (.dK kvs) ∧ kvs.length ≤ i ∧ (∀ j y c, j < i → Ps[j]? = some y → (tl sg)[j]? = some c → valV kvs (Sum.inr y) = some (.str ⟨#[c]⟩)) ∧ ∀ k v, valV kvs k = some v → ∃ x ∈ Ps, k = Sum.inr x) (fun _ _ => rfl) ⟨Keeps.new nD, [], upd_same, Nat.le_refl _, fun j y c h => absurd h (Nat.not_lt_zero _), fun k v h => (by cases h)⟩ (fun i H' _ h => sq_of (h.1 _ _ W3.pl_)) (fun i H' t y z ⟨k, kvs, h1, h2, h3⟩ nt => ⟨k.put (k.free nt), kvs, (upd_ne (ne_of_none h1 nt)).trans h1, h2, h3⟩) ?_ ?_
    · rintro i v c H' hv hc ⟨k, kvs, hD, hl, hval, hdom⟩ N kN
      obtain ⟨z, hz, rfl⟩ := get_map hv
      have hi := lt_of_get hz
      walk_at "rt"
      have hlp := length_putK kvs (Sum.inr z) (.str ⟨#[c]⟩)
      refine kN (Sum.inr z) (.str ⟨#[c]⟩) H' kvs hD (size_ok (by omega)) ⟨k.put nD, _, upd_same, by omega, fun j y c' hj hy hc' => ?_, fun k' v' h => ?_⟩
      rotate_left
      · rw [valV_put] at h
        by_cases e : k' = Sum.inr z
        · exact ⟨z, List.mem_of_getElem? hz, e⟩
        · rw [if_neg e] at h
          exact hdom k' v' h
      rw [valV_put]
      by_cases e : j = i
      · subst e
        rw [hz] at hy
        cases hy
        rw [if_pos rfl]
        have hc : (tl sg)[j]? = some c := hc
        rw [hc] at hc'
        cases hc'
        rfl
      · have ne : ¬ (Sum.inr y : Key) = Sum.inr z := fun h => by
          have hlt : j < i := by omega
          refine take_new O.nd hz ?_
          rw [← Sum.inr.inj h]
          refine List.mem_of_getElem? (i := j) ?_
          rw [List.getElem?_take, if_pos hlt]
          exact hy
        rw [if_neg ne]
        exact hval j y c' (by omega) hy hc'
    · rintro H4 ⟨k4, kvs, hD, hl, hval, hdom⟩
      have x4 := k4 _ _ x3
      have W4 := (W3.keep k4).but (but H4 (.ins c_Board dx (boardF wb sg D))) x4 nwx
      refine ⟨dx, _, x4, Nat.lt_of_le_of_lt (Nat.le_refl 2) (by omega), q S0 _ ((b3.trans (Keeps.but k4)).trans (but H4 _)) ⟨D, dx, kvs, upd_same, ⟨_, _, _, _, _, W4⟩, (upd_ne (fun z => by rw [z, x4] at hD; cases hD)).trans hD, fun i y c hy hc => hval i y c (by have := lt_of_get hy; rw [List.length_map]; exact this) hy hc, hdom, O, S0⟩⟩
end
end K01
namespace K01
open PySem PySem.Spec PyProof.Rows L2 TL HotExc Tw WX
local macro_rules | `(tactic| walk_at "rd") => `(tactic| simp only [start1, wipe, isR, isBool, isInt, isStr, isLst, isTup, tAsg, gName, gSub, tVar, tC, tOp, tUn, tTest, tIfS, tRet, tRetN, tDrop, tB, tAnd, tOr, tNot, tAndV, tOrV, tNotV, tIf, tCB, tCons, tNil, tNext, tCall, tBM, tTup, tLst, rU, rInW, rNinW, Int.reduceNeg, tG, tG2, sP, tFldC, sFldC, tProp, tMeth, tMake, rOwnC, rLenO, rIsC, rNoT, tAddT, tSAddK, rSAddK, rSInK, rSet0K, rSet0T, rMinS, rMaxS, rSortedQ, rSortedT, rEqD, rNeD, rIxD, dcL_eq, dcZ_eq, lcO_eq, forE_eq, forT_eq, lcS_eq, ItX.rIterN, iOwn, List.append_nil, tDisp, tPairs, tCallS, tCallSD, tCallT, StX.tStar, tCallK, tCallKS, rTupOf, tDrop, rI0, rI, rEq, rNe, scal, forR_eq, forR2_eq, forS_eq, forL_eq, lcT_eq, lcRT_eq, lcS_eq, rLenX, rLenS, rListOf, tRevL, rMulS, rRepL, rCatL, rSumN, rMaxN, tBM0, rPop, tAug, ipI,  tPart, tNoPart, CwR.tReplC, rAllK, rInSg, rNinSg, sgn_inj, rAddS, rInSt, tChain, tM1, tM0, rSplitN, rJoinN, exists_eq, rIntI, rIntB, rIntS, rStrI, rAbs, rOrd, rMin, rMax, rIxL, rIxX, rSetL, rAppend, rIxS, rSlS, rSlL, tSl, List.map_cons, List.map_nil, List.replicate_succ, List.replicate_zero, List.length_cons, List.length_nil, Nat.reduceSub, Nat.reduceAdd, Nat.zero_add, Nat.sub_self, List.getElem?_cons_zero, List.getElem?_cons_succ, List.set_cons_zero, List.set_cons_succ, List.append_nil, List.nil_append, List.cons_append, Option.some.injEq, not_true_eq_false, reduceCtorEq, exists_eq_left', exists_eq_left, exists_eq', exists_and_left, exists_and_right, V.int.injEq, V.str.injEq, V.bl.injEq, V.ref.injEq, List.cons.injEq, and_true, true_and, and_assoc, decide_eq_true_eq, Bool.not_eq_true', decide_eq_false_iff_not, ite_true, ite_false, if_true, if_false, Bool.not_true, Bool.not_false, Bool.false_eq_true, eq_self_iff_true, reduceIte, ne_eq, Int.reduceEq, not_false_eq_true])
local macro_rules | `(tactic| walk_at "rt") => `(tactic| try walk_at "rd")
local macro_rules | `(tactic| walk_at "st") => `(tactic| (walk_at "rt"; refine r_seq ?_; walk_at "rt"))
local macro_rules | `(tactic| walk_at "hp") => `(tactic| first | assumption | exact upd_same | (rw [upd_ne (by assumption)]; walk_at "hp"))
local macro_rules | `(tactic| walk_at "ex1") => `(tactic| ((with_reducible refine Exists.intro ?w (And.intro ?hx ?_)); (case hx => first | exact sq_of (by walk_at "hp") | exact .inl (sq_of (by walk_at "hp")) | exact rfl | (show _ = some (HO.lst _); walk_at "hp"))))
local macro_rules | `(tactic| walk_at "ex") => `(tactic| repeat (first | walk_at "ex1" | walk_at "rd"))
abbrev s_mBoard_web : Stmt := clsS 47 1
theorem sc_mBoard_web : FnScope ["self"] ["self"] (defScope s_mBoard_web) := ⟨rfl, rfl, rfl, by decide +kernel, rfl, by decide +kernel, by decide +kernel⟩
abbrev s_mBoard_signs : Stmt := clsS 47 2
theorem sc_mBoard_signs : FnScope ["self"] ["self"] (defScope s_mBoard_signs) := ⟨rfl, rfl, rfl, by decide +kernel, rfl, by decide +kernel, by decide +kernel⟩
abbrev s_mBoard_bearing : Stmt := clsS 47 5
theorem sc_mBoard_bearing : FnScope ["self", "sign", "place"] ["self", "sign"] (defScope s_mBoard_bearing) := ⟨rfl, rfl, rfl, by decide +kernel, rfl, by decide +kernel, by decide +kernel⟩
abbrev s_mBoard_eq : Stmt := clsS 47 7
theorem sc_mBoard_eq : FnScope ["self", "other"] ["self", "other"] (defScope s_mBoard_eq) := ⟨rfl, rfl, rfl, by decide +kernel, rfl, by decide +kernel, by decide +kernel⟩
/-- the places with a sign -/
def bear (Ps : List Str) (cs : List Nat) (z : Str) : List Str := ((Ps.zip cs).filter fun p => decide ((⟨#[p.2]⟩ : Str) = z)).map (·.1)
theorem bear_snoc {Ps : List Str} {cs : List Nat} {z x : Str} {c i : Nat} (h1 : Ps[i]? = some x) (h2 : cs[i]? = some c) : bear (Ps.take (i + 1)) (cs.take (i + 1)) z = bear (Ps.take i) (cs.take i) z ++ if (⟨#[c]⟩ : Str) = z then [x] else [] := by
  unfold bear
  have l1 := lt_of_get h1
  have l2 := lt_of_get h2
  rw [take_snoc h1, take_snoc h2, List.zip_append (by rw [List.length_take, List.length_take]; omega), List.filter_append, List.map_append]
  congr 1
  by_cases e : (⟨#[c]⟩ : Str) = z <;> simp [e]
def mir (c : Nat) : Nat := if c = 100 then 108 else if c = 108 then 100 else c
def turnS (sg : Str) : Str := S ((tl sg).map mir)
theorem mir_sgn {c : Nat} (h : sgn c) : sgn (mir c) := by
  rcases h with rfl | rfl | rfl
  · exact .inl rfl
  · exact .inr (.inr rfl)
  · exact .inr (.inl rfl)
theorem mir_mir {c : Nat} (h : sgn c) : mir (mir c) = c := by
  rcases h with rfl | rfl | rfl <;> rfl
theorem SgOk.turn {n : Nat} {sg : Str} (h : SgOk n sg) : SgOk n (turnS sg) := ⟨by rw [turnS, tl_S, List.length_map]; exact h.len, fun c hc => by
  rw [turnS, tl_S] at hc
  obtain ⟨d, hd, rfl⟩ := List.mem_map.mp hc
  exact mir_sgn (h.al d hd)⟩
theorem turn_turn {n : Nat} {sg : Str} (h : SgOk n sg) : turnS (turnS sg) = sg := by
  refine tl_inj ?_
  rw [turnS, tl_S, turnS, tl_S, List.map_map]
  have : ∀ l : List Nat, (∀ c ∈ l, sgn c) → l.map (mir ∘ mir) = l := by
    intro l
    induction l with
    | nil => intro _; rfl
    | cons c l ih =>
      intro h
      rw [List.map_cons, ih fun d hd => h d (List.mem_cons_of_mem _ hd)]
      show mir (mir c) :: l = c :: l
      rw [mir_mir (h c List.mem_cons_self)]
  exact this _ h.al
def spB1 (CW CB : Addr) (g : Addr → List Str → List (Str × Str) → Str → Hp → VK → Prop) : Sp := fun vs H Q _ => ∃ b Ps T sg, vs = [.ref b] ∧ IsBoard CW CB H b Ps T sg ∧ g b Ps T sg H Q
def spBweb (CW CB : Addr) : Sp := spB1 CW CB fun _ Ps T _ H Q => ∀ w, IsWeb CW H w Ps T → Q (.ref w) H
def spBsg (CW CB : Addr) : Sp := spB1 CW CB fun _ _ _ sg H Q => Q (.str sg) H
def spBbe (CW CB : Addr) : Sp := fun vs H Q _ => ∃ b z Ps T sg, vs = [.ref b, .str z] ∧ IsBoard CW CB H b Ps T sg ∧ ∀ l H', Keeps H H' → H l = none → H' l = some (.lst ((bear Ps (tl sg) z).map V.str)) → Q (.ref l) H'
def spBeq (CW CB : Addr) : Sp := fun vs H Q _ => ∃ b y Ps T sg, vs = [.ref b, y] ∧ IsBoard CW CB H b Ps T sg ∧
  ((∃ e Ps' T' sg', y = .ref e ∧ IsBoard CW CB H e Ps' T' sg' ∧ Q (.bl (decide ((Ps = Ps' ∧ T = T') ∧ sg = sg'))) H) ∨ (((∃ z, y = .str z) ∨ (∃ i, y = .int i) ∨ ∃ e Ps' T', y = .ref e ∧ IsWeb CW H e Ps' T') ∧ Q (.bl false) H))
section
variable {P : Program} {w : World} {K : PySem.W.Frag} {mg : Str → Option Value} {base : Heap}
theorem ok_Bweb {c_Web c_Board f : Addr} {fd : FuncData} (F : Fun K "web" "Board.web" s_mBoard_web f fd) (CL_Board : Cls K c_Board) (NA_Board_web : NoAttr K c_Board "_web") : FnOk P w K mg base CX0 1 f fd ["self"] (spBweb c_Web c_Board) := by
  refine F.ok sc_mBoard_web (fun vs H Q E h => ?_) (fun cdv A outer s H vs Q E hr h => ?_)
  · obtain ⟨b, Ps, T, sg, rfl, _⟩ := h
    rfl
  · obtain ⟨b, Ps, T, sg, rfl, ⟨wb, d, dx, kvs, B⟩, q⟩ := h
    refine ⟨_, (pss_one (ps_ret (pe_fldC CL_Board NA_Board_web (pv 0) (by rfl)))), ?_⟩
    walk_at "rt"
    exact ⟨dx, _, B.ob, _, boardF_web _ _ _, q wb B.web⟩
theorem ok_Bsg {c_Web c_Board f : Addr} {fd : FuncData} (F : Fun K "signs" "Board.signs" s_mBoard_signs f fd) (CL_Board : Cls K c_Board) (NA_Board_signs : NoAttr K c_Board "_signs") : FnOk P w K mg base CX0 1 f fd ["self"] (spBsg c_Web c_Board) := by
  refine F.ok sc_mBoard_signs (fun vs H Q E h => ?_) (fun cdv A outer s H vs Q E hr h => ?_)
  · obtain ⟨b, Ps, T, sg, rfl, _⟩ := h
    rfl
  · obtain ⟨b, Ps, T, sg, rfl, ⟨wb, d, dx, kvs, B⟩, q⟩ := h
    refine ⟨_, (pss_one (ps_ret (pe_fldC CL_Board NA_Board_signs (pv 0) (by rfl)))), ?_⟩
    walk_at "rt"
    exact ⟨dx, _, B.ob, _, boardF_signs _ _ _, q⟩
theorem ok_Bbe {c_Web c_Board f f_Wit : Addr} {fd fd_Wit : FuncData} (F : Fun K "bearing" "Board.bearing" s_mBoard_bearing f fd) (CL_Board : Cls K c_Board) (NA_Board_web : NoAttr K c_Board "_web") (NA_Board_sign_at : NoAttr K c_Board "_sign_at") (SM_mWeb_iter : Sm K c_Web "__iter__" f_Wit) (GS_mWeb_iter : FnOkS P w K mg base CX0 1 f_Wit fd_Wit ["self"] (spIter K (WebR c_Web))) (B_mWeb_iter : Binds K fd_Wit ["self"] []) : FnOk P w K mg base CX0 2 f fd ["self", "sign"] (spBbe c_Web c_Board) := by
  refine F.ok sc_mBoard_bearing (fun vs H Q E h => ?_) (fun cdv A outer s H vs Q E hr h => ?_)
  · obtain ⟨b, z, Ps, T, sg, rfl, _⟩ := h
    rfl
  · obtain ⟨b, z, Ps, T, sg, rfl, ⟨wb, d, dx, kvs, B⟩, q⟩ := h
    refine ⟨_, (pss_one (ps_ret (pe_lc (own := [("place", 2)]) (g := gName 2) (by rfl) sc_mBoard_bearing.nd (pi_ownK (K := K) SM_mWeb_iter GS_mWeb_iter (hr.mono (by omega)) B_mWeb_iter pass0 (pe_fldC CL_Board NA_Board_web (pv 0) (by rfl))) (blkOk_by (own := [("place", 2)]) (N := ["self", "sign", "place"]) (sc := defScope s_mBoard_bearing) (by decide +kernel)) (fun _ _ _ _ _ => pg_name (i := 2) sc_mBoard_bearing.nd rfl (Or.inl rfl)) (fun _ _ _ _ _ => (pts_one (pt_cmpR op_eq (pe_gS (hu_of hr) (pe_fldC CL_Board NA_Board_sign_at (pv 0) (by rfl)) (pv 2) (fun _ _ => rfl)) (pv 1) (nomark _)))) (fun _ _ _ _ _ => (pv 2))))), ?_⟩
    obtain ⟨pl, tl', nd, dxw, ys, W⟩ := B.web
    walk_at "rt"
    refine ⟨dx, _, B.ob, _, boardF_web _ _ _, wb, rfl, ⟨_, _, W.ob⟩, pl, ⟨_, _, _, W.ob⟩, ⟨_, sq_of W.pl_⟩, fun D nD => ?_⟩
    have hl := B.sg.len
    refine r_lcT (Ps.map V.str) (fun i H' => Keeps H H' ∧ H' D = some (.lst ((bear (Ps.take i) ((tl sg).take i) z).map V.str))) (fun _ => rfl) ⟨Keeps.new nD, upd_same⟩ (fun i H' _ h => sq_of (h.1 _ _ W.pl_)) ?_ ?_
    · rintro i v H' hv ⟨k, hD⟩ N M kN kM
      obtain ⟨x, hx, rfl⟩ := get_map hv
      have hi := lt_of_get hx
      have hc : (tl sg)[i]? = some (tl sg)[i] := List.getElem?_eq_getElem (by omega)
      generalize (tl sg)[i] = c at hc
      have bs := bear_snoc (z := z) hx hc
      walk_at "rt"
      refine ⟨dx, _, k _ _ B.ob, _, boardF_at _ _ _, d, rfl, kvs, k _ _ B.tab, _, B.val i x c hx hc, rfl, ?_⟩
      have hb : (bear (Ps.take i) ((tl sg).take i) z).length ≤ i := by
        unfold bear
        rw [List.length_map]
        refine Nat.le_trans (List.length_filter_le _ _) ?_
        rw [List.length_zip, List.length_take]
        omega
      have h20 := B.ok.p20
      refine ite2 (fun e => kN _ _ _ hD (size_ok (by rw [List.length_map]; omega)) ⟨k.put nD, ?_⟩) (fun e => kM _ ⟨k, ?_⟩)
      · rw [upd_same, bs, if_pos (V.str.inj e), List.map_append]
        rfl
      · rw [bs, if_neg (fun h => e (congrArg V.str h)), List.append_nil]
        exact hD
    · rintro H2 ⟨k2, hD⟩
      rw [List.length_map, List.take_length, ← hl, List.take_length] at hD
      exact q D H2 k2 nD hD
theorem ok_Beq {c_Web c_Board f f_Weq : Addr} {fd fd_Weq : FuncData} (B0 : Bi mg) (F : Fun K "__eq__" "Board.__eq__" s_mBoard_eq f fd) (IC : IsaC K c_Board) (IW : IsaC K c_Web) (CL_Board : Cls K c_Board) (NA_Board_web : NoAttr K c_Board "_web") (NA_Board_signs : NoAttr K c_Board "_signs") (gc_Board : mg "Board" = some (.ref c_Board)) (SM_mWeb_eq : Sm K c_Web "__eq__" f_Weq) (G_mWeb_eq : FnOk P w K mg base CX0 2 f_Weq fd_Weq ["self", "other"] (spWeq c_Web)) (B_mWeb_eq : Binds K fd_Weq ["self", "other"] []) (NE_Web : NeC K c_Web)
    (kS : PySem.W.kitOne K (.type "str") (.ref c_Board) = some false) (kI : PySem.W.kitOne K (.type "int") (.ref c_Board) = some false) (kW : PySem.W.kitOne K (.ref c_Web) (.ref c_Board) = some false) (nW : PySem.W.notFirst K c_Web (.ref c_Web) = true) : FnOk P w K mg base CX0 3 f fd ["self", "other"] (spBeq c_Web c_Board) := by
  have B := B0
  refine F.ok sc_mBoard_eq (fun vs H Q E h => ?_) (fun cdv A outer s H vs Q E hr h => ?_)
  · obtain ⟨b, y, Ps, T, sg, rfl, _⟩ := h
    rfl
  · obtain ⟨b, y, Ps, T, sg, rfl, ⟨wb, d, dx, kvs, B1⟩, q⟩ := h
    refine ⟨_, (pss_one (ps_ret (pe_and (pe_callB (call_isC (K := K)) (by rfl) B.isinstance (by decide +kernel) (pa_cons (pv 1) (pa_cons (pe_glob (v := .ref c_Board) (by rfl) gc_Board rfl) pa_nil))) (pe_and (pe_cmpR (op_eqOK (K := K) SM_mWeb_eq G_mWeb_eq (hr.mono (by omega)) B_mWeb_eq pass0 NE_Web.ns NE_Web.ni) (pe_fldC CL_Board NA_Board_web (pv 0) (by rfl)) (pe_fldC CL_Board NA_Board_web (pv 1) (by rfl)) (nomark _)) (pe_one (pe_cmpR op_eq (pe_fldC CL_Board NA_Board_signs (pv 0) (by rfl)) (pe_fldC CL_Board NA_Board_signs (pv 1) (by rfl)) (nomark _))))))), ?_⟩
    walk_at "rt"
    rcases q with ⟨e, Ps', T', sg', rfl, ⟨wb', d', dx', kvs', B2⟩, q⟩ | ⟨h, q⟩
    · refine ⟨_, IC.ty B2.ob, true, kit_self, ?_⟩
      simp only [if_true]
      obtain ⟨pl, tl', nd, dxw, ys, W⟩ := id B1.web
      obtain ⟨pl2, tl2, nd2, dxw2, ys2, W2⟩ := id B2.web
      refine ⟨dx, _, B1.ob, _, boardF_web _ _ _, e, rfl, dx', _, B2.ob, _, boardF_web _ _ _, wb, rfl, ⟨_, _, W.ob⟩, .inr (.inr ⟨wb', c_Web, _, _, rfl, W2.ob, nW⟩), wb, wb', Ps, T, Ps', T', rfl, B1.web, B2.web, B1.ok, B2.ok, _, rfl, ?_⟩
      by_cases hc : Ps = Ps' ∧ T = T'
      · rw [if_pos (by rw [decide_eq_true hc])]
        refine ⟨dx, _, B1.ob, _, boardF_signs _ _ _, e, rfl, dx', _, B2.ob, _, boardF_signs _ _ _, ?_⟩
        refine ⟨rfl, ?_⟩
        rw [show decide ((Ps = Ps' ∧ T = T') ∧ sg = sg') = decide (V.str sg = V.str sg') from decide_eq_decide.mpr ⟨fun z => congrArg V.str z.2, fun z => ⟨hc, V.str.inj z⟩⟩] at q
        exact q
      · rw [if_neg (by rw [decide_eq_false hc]; decide)]
        rw [show decide ((Ps = Ps' ∧ T = T') ∧ sg = sg') = false from decide_eq_false fun z => hc z.1] at q
        exact q
    · rcases h with ⟨z, rfl⟩ | ⟨i, rfl⟩ | ⟨e, Ps', T', rfl, ⟨pl, tl', nd, dxw, ys, W⟩⟩
      · exact ⟨_, .str z, false, kS, by simp only [Bool.false_eq_true, if_false]; exact q⟩
      · exact ⟨_, .int i, false, kI, by simp only [Bool.false_eq_true, if_false]; exact q⟩
      · exact ⟨_, IW.ty W.ob, false, kW, by simp only [Bool.false_eq_true, if_false]; exact q⟩
end
end K01
/-! set(texts) -/
namespace WX
open PySem PySem.Spec PyProof.Rows L2
/-- among the first i texts of ws -/
def inW (ws : List Str) (i : Nat) (k : Key) : Bool := (ws.take i).any fun x => decide (k = Sum.inr x)
theorem inW_next {ws : List Str} {i : Nat} {x : Str} (h : ws[i]? = some x) (k : Key) : inW ws (i + 1) k = (inW ws i k || decide (k = Sum.inr x)) := by
  unfold inW
  rw [List.take_add_one, h, List.any_append]
  simp
theorem inW_all (ws : List Str) (x : Str) : inW ws ws.length (Sum.inr x) = decide (x ∈ ws) := by
  unfold inW
  rw [List.take_length]
  by_cases h : x ∈ ws
  · rw [decide_eq_true h]
    exact List.any_eq_true.mpr ⟨x, h, decide_eq_true rfl⟩
  · rw [decide_eq_false h]
    refine List.any_eq_false.mpr fun y hy e => h ?_
    have := of_decide_eq_true e
    cases this
    exact hy
theorem set_alike {P : Program} {w : World} {h : Heap} {a : Addr} {S S' : Key → Bool} {c c' : Nat} (R : h.SetOf (mixKind P w) a S c) (e : ∀ k, S k = S' k) (ec : c = c') : h.SetOf (mixKind P w) a S' c' := by
  obtain rfl : S = S' := funext e
  exact ec ▸ R
theorem set_same {P : Program} {w : World} {h h' : Heap} {a : Addr} {S : Key → Bool} {c : Nat} (R : h.SetOf (mixKind P w) a S c) (k : ∀ o, h.get? a = some o → h'.get? a = some o) : h'.SetOf (mixKind P w) a S c := setOf_at R k
section
variable {P : Program} {w : World} {A : Around} {R : Result → Shared → Prop} {I0 : Addr} {fp wr : List Addr} {G : Array GenState → Array GenState → Prop} {n : Nat} {V0 : Nat → Value → Prop} {St0 : Nat → Shared → Prop}
theorem upd_texts (Wk : WalksS P w A.in1 I0 fp wr G n V0 St0) (T : Addr) (nT : T ∉ fp) (ws : List Str) (few : n ≤ 100) (val : ∀ i v, V0 i v → ∃ x, ws[i]? = some x ∧ RelV (V.str x) v) :
    ∀ (m i : Nat) (s : Shared), n - i = m → i ≤ n → St0 i s → (∃ c, c ≤ i ∧ s.heap.SetOf (mixKind P w) T (inW ws i) c) →
      (∀ s2, Moved (T :: wr) G s s2 → (∃ c, c ≤ n ∧ s2.heap.SetOf (mixKind P w) T (inW ws n) c) → R (.ok (.ret .none)) s2) →
      codeAny (model P w) A (.builtin "set.update.loop" ⟨[.ref T, .ref I0], []⟩) R s := by
  have nTw : T ∉ wr := fun z => nT (Wk.sub _ z)
  have more : ∀ b ∈ wr, b ∈ T :: wr := fun b z => List.mem_cons_of_mem _ z
  intro m
  induction m with
  | zero =>
    intro i s e le st ⟨c, hc, R0⟩ fin
    obtain rfl : i = n := by omega
    refine codeAny_builtin F.entry_set_update_loop (by
      rw [Around.under_plainId F.plain_set_update_loop _]
      show wpAny _ A.in1 (pyNext (.ref I0) >>= _) _ _ s
      exact wpAny_bind (Wk.done s _ _ st fun s2 mv => (show wpAny _ A.in1 (ret Value.none) _ _ s2 from wpAny_pure (fin s2 (mv.mono more) ⟨c, hc, set_same R0 fun o ho => mv.heap T _ nTw ho⟩))))
  | succ m ih =>
    intro i s e le st ⟨c, hc, R0⟩ fin
    have lt : i < n := by omega
    refine codeAny_builtin F.entry_set_update_loop (by
      rw [Around.under_plainId F.plain_set_update_loop _]
      show wpAny _ A.in1 (pyNext (.ref I0) >>= _) _ _ s
      refine wpAny_bind (Wk.item i s _ _ lt st fun u s2 pu st2 mv => ?_)
      obtain ⟨x, hx, ru⟩ := val i u pu
      have R1 := set_same (h' := s2.heap) R0 fun o ho => mv.heap T _ nTw ho
      have ru' : RelV (kV (Sum.inr x)) u := ru
      show wpAny _ A.in1 (holding [u] (setAdd T u) >>= _) _ _ s2
      refine wpAny_bind (wpAny_holding (by
        unfold setAdd
        refine wpAny_holding (wpAny_bind ((mixKind P w).pyHash (k := Sum.inr x) (kV_is ru') ?_))
        refine wpAny_setAddHashed_of (knd := mixKind P w) (s := { s2 with toks := s2.toks + 1 }) (kV_is ru') (key_scan ru') R1 (by unfold scanBound; omega) fun h2 sb R2 => ?_
        refine wpAny_pure ⟨plainId_quiet F.plain_set_update_loop _, ih (i + 1) _ (by omega) lt (Wk.frame _ s2 _ _ st2 (Nat.le_succ _) fun b hb o eo => (sb.2 b (fun z : b = T => nT (by rw [← z]; exact hb))).trans eo) ⟨_, ?_, set_alike R2 (fun k => (inW_next hx k).symm) rfl⟩ fun s3 mv3 R3 => ?_⟩
        · split <;> omega
        · exact fin s3 (Moved.trans Wk.gtrans ((mv.mono more).then_heap (Nat.le_succ _) fun b o hb eo => (sb.2 b (fun z : b = T => hb (by rw [z]; exact List.mem_cons_self))).trans eo) mv3) R3)))
end
section
variable {P : Program} {w : World} {A : Around} {E : Value → Shared → Prop} {s : Shared}
abbrev newSet (led : Bool) : Obj := { cls := .type "set", dict := none, data := .set #[] 0 (.fresh 0 0 led) }
theorem setOf_fresh {led : Bool} {h : Heap} {a : Addr} (e : h.get? a = some (newSet led)) : h.SetOf (mixKind P w) a (fun _ => false) 0 :=
  ⟨_, #[], 0, _, e, ⟨rfl, rfl, rfl⟩, rfl, (fun e he => by simp at he), (fun k => by simp), (by cases led <;> decide), (by cases led <;> rfl), rfl⟩
set_option maxHeartbeats 3200000 in
theorem call_set_texts {l : Addr} {items : Array Value} {ws : List Str} {Q : Value → Shared → Prop} (hh : A.handled = none) (hl : s.heap.IsList l items) (hv : Vals (ws.map V.str) items.toList) (few : ws.length ≤ 100)
    (h : ∀ (h2 : Heap) (tk c : Nat), c ≤ ws.length → h2.SetOf (mixKind P w) s.heap.objs.size (inW ws ws.length) c → (∀ b o, s.heap.get? b = some o → h2.get? b = some o) → Q (.ref s.heap.objs.size) { s with heap := h2, toks := tk }) :
    wpAny (model P w) A (call (.type "set") [.ref l]) Q E s := by
  have isz : items.size = ws.length := by
    have := hv.length
    rw [List.length_map, Array.length_toList] at this
    exact this.symm
  have ⟨_, _, mr⟩ := PySem.F.called_set.mro
  have md := PySem.F.called_set.made; have sb := PySem.F.called_set.sub
  refine wpAny_call (codeAny_of_tree (by
    show wpAny _ _ (callAny (.type "set") _) _ _ _
    refine wpAny_pure ⟨Code.quiet_builtin _ (by decide +kernel), codeAny_builtin PySem.F.entry_type_call ?_⟩
    rw [Around.under_plain (weight_type_call_type "set" [.ref l] []) rfl]
    have nt := PySem.F.called_set.notType; have cc := PySem.F.called_set.canCreate; have tc := PySem.F.typeCall_set_1 (.ref l)
    repeat (any_goals (first | assumption | wp_step))
    refine codeAny_mono (code_set_new_1 (.ref l) (E := E) (Q₁ := fun ob s1 => ∃ led : Bool, ob = .ref s.heap.objs.size ∧ s1 = { s with heap := s.heap.push (newSet led) }) fun led => ⟨led, rfl, rfl⟩) fun r s1 hr => ?_
    match r, hr with
    | .error e, hr => exact hr
    | .ok (.ret ob), ⟨led, e1, e2⟩ =>
      subst e1 e2
      have hS : (s.heap.push (newSet led)).get? s.heap.objs.size = some (newSet led) := Heap.get?_push_size _ rfl
      have tS : Shared.TypeIs { s with heap := s.heap.push (newSet led) } (.ref s.heap.objs.size) "set" := ⟨_, hS, rfl⟩
      have li := PySem.F.called_set.init.lookup; have bi := PySem.F.called_set.init.bind (.ref s.heap.objs.size)
      repeat (any_goals (first | assumption | wp_step))
      refine codeAny_mono (codeAny_call_builtin (R := wants (fun r s2 => r = .none ∧ ∃ h2 tk c, s2 = { s with heap := h2, toks := tk } ∧ c ≤ ws.length ∧ h2.SetOf (mixKind P w) s.heap.objs.size (inW ws ws.length) c ∧
          (∀ b o, s.heap.get? b = some o → h2.get? b = some o)) E) PySem.F.called_set.init.plain PySem.F.entry_set_init (check_set_init_1 tS ?_)) fun r2 s2 hr2 => ?_
      · obtain ⟨⟨oc, od, oa, os⟩, ho, hc, nl, hd⟩ := hl
        simp only at hc hd
        subst hc hd
        have ho1 : (s.heap.push (newSet led)).get? l = some { cls := .type "list", dict := od, data := .seq items nl, slots := os } := Heap.get?_push_of_some _ ho
        have s1 := PySem.F.sub_list_set; have s2 := PySem.F.sub_list_frozenset
        have ne : (Value.type "list" == Value.type "dict") = false := by decide
        have hl1 : (s.heap.push (newSet led)).IsList l items := ⟨_, ho1, rfl, nl, rfl⟩
        unfold Builtin.«set.__init__» noKeywords Builtin.Frozenset.updateFrom
        generalize hPI : pyIter = PI
        wp_walk
        subst hPI
        refine wpAny_pyIter_list hl1 (wpAny_bind (wpAny_runValue ?_))
        have ll : l < s.heap.objs.size := Heap.lt_size ho
        have h3 : A.in1.in1.in1.handled = none := by simp [hh]
        have z1 : (s.heap.push (newSet led)).objs.size = s.heap.objs.size + 1 := Heap.size_push ..
        have nI : l ≠ (s.heap.push (newSet led)).objs.size := by
          rw [z1]
          exact Nat.ne_of_lt (Nat.lt_succ_of_lt ll)
        have nS : s.heap.objs.size ∉ [(s.heap.push (newSet led)).objs.size, l] := by
          rw [z1]
          simp only [List.mem_cons, List.not_mem_nil, or_false, not_or]
          exact ⟨Nat.ne_of_lt (Nat.lt_succ_self _), Nat.ne_of_gt ll⟩
        have val : ∀ (i : Nat) (v : Value), items[i]? = some v → ∃ x, ws[i]? = some x ∧ RelV (V.str x) v := fun i v e => by
          have hi : i < ws.length := by have := (Array.getElem?_eq_some_iff.mp e).1; omega
          refine ⟨ws[i], List.getElem?_eq_getElem hi, ?_⟩
          have := hv.get (i := i) (x := V.str ws[i]) (by rw [List.getElem?_map, List.getElem?_eq_getElem hi]; rfl)
          obtain ⟨u, e2, ru⟩ := this
          rw [Array.getElem?_toList, e] at e2
          cases e2
          exact ru
        refine upd_texts ((Walks.list h3 _ l nI items).toS) s.heap.objs.size nS ws (by omega) val (items.size - 0) 0 _ rfl (Nat.zero_le _) ⟨⟨_, Heap.get?_push_size _ rfl, rfl, rfl⟩, hl1.push _⟩ ?hS0 ?hR
        case hS0 =>
          exact ⟨0, Nat.le_refl _, set_alike (setOf_fresh (Heap.get?_push_of_some _ hS)) (fun k => by unfold inW; simp) rfl⟩
        case hR =>
          rintro ⟨h4, g4, d4, t4, o4⟩ mv ⟨c, hc, R4⟩
          have eg : g4 = s.gens := mv.gens
          have ed : d4 = s.drawn := mv.drawn
          have eo : o4 = s.os := mv.os
          subst eg ed eo
          rw [isz] at hc R4
          show wpAny _ _ _ _ _ _
          refine wpAny_pure (show wpAny _ _ (ret Value.none) _ _ _ from wpAny_pure ⟨rfl, h4, t4, c, rfl, hc, R4, fun b o e => ?_⟩)
          have hb := Heap.lt_size e
          refine mv.heap b o (by
            simp only [List.mem_cons, List.not_mem_nil, or_false, not_or]
            rw [z1]
            exact ⟨Nat.ne_of_lt hb, Nat.ne_of_lt (Nat.lt_succ_of_lt hb)⟩) (Heap.get?_push_of_some _ (Heap.get?_push_of_some _ e))
      · match r2, hr2 with
        | .error e, hr2 => exact hr2
        | .ok (.ret r3), ⟨e1, h2, tk, c, e2, hc, R4, k4⟩ =>
          subst e1 e2
          repeat (any_goals (first | assumption | wp_step))
          exact h _ _ _ hc R4 k4))
end
/-- set(xs), xs a list of texts -/
def rSetOfS (K : PySem.W.Frag) (P : Program) (w : World) : List V → Hp → VK → Prop := fun xs H Q => ∃ a, xs = [V.ref a] ∧ ∃ ws : List Str, SqL K H a (ws.map V.str) ∧ ws.length ≤ 100 ∧ ∀ p c, H p = none → Q (.ref p) (L2.upd H p (SetK P w p (inW ws ws.length) c))
theorem cr_setOfS {X : Cx} (hc : X.calm = true) : CallR X (.type "set") (rSetOfS X.K X.prog X.w) := by
  intro pins s σ H xs us Q I r h
  obtain ⟨a, rfl, ws, hs, few, q⟩ := h
  rw [Vals.ref1 r]
  obtain ⟨its, rv, pl, hz⟩ := I.list hs
  refine call_set_texts (P := X.prog) (w := X.w) (I.ok.hd hc) pl.isList (by simpa using rv) few fun h2 tk c _ R2 k2 => ?_
  exact ⟨.ref s.heap.objs.size, L2.upd H s.heap.objs.size (SetK X.prog X.w s.heap.objs.size (inW ws ws.length) c), I.laid (t' := tk) k2 (Nat.le_refl _) (setK_new R2), rfl, q _ c (I.hok.fresh (Nat.le_refl _))⟩
theorem cr_setOfSK {X : Cx} {K : PySem.W.Frag} {P : Program} {w : World} (hc : X.calm = true) (h : X.K = K := by rfl) (hP : X.prog = P := by rfl) (hw : X.w = w := by rfl) : CallR X (.type "set") (rSetOfS K P w) := h ▸ hP ▸ hw ▸ cr_setOfS hc
end WX
namespace K01
open PySem PySem.Spec PyProof.Rows L2 TL HotExc Tw
local macro_rules | `(tactic| walk_at "rd") => `(tactic| simp only [start1, wipe, isR, isBool, isInt, isStr, isLst, isTup, tAsg, gName, gSub, tVar, tC, tOp, tUn, tTest, tIfS, tRet, tRetN, tDrop, tB, tAnd, tOr, tNot, tAndV, tOrV, tNotV, tIf, tCB, tCons, tNil, tNext, tCall, tBM, tTup, tLst, rU, rInW, rNinW, Int.reduceNeg, tG, tG2, sP, tDisp, tPairs, tCallS, tCallSD, tCallT, StX.tStar, tCallK, tCallKS, rTupOf, tDrop, rI0, rI, rEq, rNe, scal, forR_eq, forR2_eq, forS_eq, forL_eq, lcT_eq, lcRT_eq, lcS_eq, rLenX, rLenS, rListOf, tRevL, rMulS, rRepL, rCatL, rSumN, rMaxN, tBM0, rPop, tAug, ipI,  tPart, tNoPart, CwR.tReplC, rAllK, rInSg, rNinSg, sgn_inj, rAddS, rInSt, tChain, tM1, tM0, rSplitN, rJoinN, exists_eq, rIntI, rIntB, rIntS, rStrI, rAbs, rOrd, rMin, rMax, rIxL, rIxX, rSetL, rAppend, rIxS, rSlS, rSlL, tSl, List.map_cons, List.map_nil, List.replicate_succ, List.replicate_zero, List.length_cons, List.length_nil, Nat.reduceSub, Nat.reduceAdd, Nat.zero_add, Nat.sub_self, List.getElem?_cons_zero, List.getElem?_cons_succ, List.set_cons_zero, List.set_cons_succ, List.append_nil, List.nil_append, List.cons_append, Option.some.injEq, not_true_eq_false, reduceCtorEq, exists_eq_left', exists_eq_left, exists_eq', exists_and_left, exists_and_right, V.int.injEq, V.str.injEq, V.bl.injEq, V.ref.injEq, List.cons.injEq, and_true, true_and, and_assoc, decide_eq_true_eq, Bool.not_eq_true', decide_eq_false_iff_not, ite_true, ite_false, if_true, if_false, Bool.not_true, Bool.not_false, Bool.false_eq_true, eq_self_iff_true, reduceIte, ne_eq, Int.reduceEq, not_false_eq_true])
local macro_rules | `(tactic| walk_at "rt") => `(tactic| try walk_at "rd")
local macro_rules | `(tactic| walk_at "st") => `(tactic| (walk_at "rt"; refine r_seq ?_; walk_at "rt"))
local macro_rules | `(tactic| walk_at "hp") => `(tactic| first | assumption | exact upd_same | (rw [upd_ne (by assumption)]; walk_at "hp"))
local macro_rules | `(tactic| walk_at "ex1") => `(tactic| ((with_reducible refine Exists.intro ?w (And.intro ?hx ?_)); (case hx => first | exact sq_of (by walk_at "hp") | exact .inl (sq_of (by walk_at "hp")) | exact rfl | (show _ = some (HO.lst _); walk_at "hp"))))
local macro_rules | `(tactic| walk_at "ex") => `(tactic| repeat (first | walk_at "ex1" | walk_at "rd"))
abbrev s_unlike : Stmt := topS 63
theorem sc_unlike : FnScope ["name", "taken", "k"] ["name", "taken"] (defScope s_unlike) := ⟨rfl, rfl, rfl, by decide +kernel, rfl, by decide +kernel, by decide +kernel⟩
abbrev s_names : Stmt := topS 64
theorem sc_names : FnScope ["store", "many", "taken", "kind", "stem", "at", "found", "k", "name", "j"] ["store", "many", "taken"] (defScope s_names) := ⟨rfl, rfl, rfl, by decide +kernel, rfl, by decide +kernel, by decide +kernel⟩
/-! ### names -/
/-- the spare names -/
def spare (k : Nat) : Str := Str.ofString "q" ++ (toString ((k : Nat) : Int) : Str)
theorem spare_ok : ((List.range 64).all fun k => decide (nm (tl (spare k)))) = true := by decide +kernel
theorem spare_nd : ((List.range 64).map spare).Nodup := by decide +kernel
theorem spare_nm {k : Nat} (h : k < 64) : nm (tl (spare k)) := of_decide_eq_true (List.all_eq_true.mp spare_ok k (List.mem_range.mpr h))
theorem nd_len {α : Type} [DecidableEq α] : ∀ (l m : List α), l.Nodup → (∀ x ∈ l, x ∈ m) → l.length ≤ m.length
  | [], _, _, _ => Nat.zero_le _
  | x :: l, m, nd, h => by
    obtain ⟨n1, n2⟩ := List.nodup_cons.mp nd
    have hx := h x List.mem_cons_self
    have := nd_len l (m.erase x) n2 fun y hy => (List.mem_erase_of_ne (fun e => n1 (by rw [← e]; exact hy))).mpr (h y (List.mem_cons_of_mem _ hy))
    rw [List.length_erase_of_mem hx] at this
    have := List.length_pos_of_mem hx
    rw [List.length_cons]
    omega
/-- of more spare names than are taken one is free -/
theorem spare_free {ts : List Str} {n : Nat} (hn : n ≤ 64) (hl : ts.length < n) : ∃ k, k < n ∧ spare k ∉ ts := by
  apply Classical.byContradiction
  intro h
  have hs : ∀ x ∈ (List.range n).map spare, x ∈ ts := fun x hx => by
    obtain ⟨k, hk, rfl⟩ := List.mem_map.mp hx
    exact Classical.byContradiction fun z => h ⟨k, List.mem_range.mp hk, z⟩
  have nd : ((List.range n).map spare).Nodup := by
    have : ((List.range n).map spare).Sublist ((List.range 64).map spare) := (List.range_sublist.mpr hn).map _
    exact this.nodup spare_nd
  have := nd_len _ _ nd hs
  rw [List.length_map, List.length_range] at this
  omega
/-- a name, not one of those that are taken -/
def spUnlike : Sp := fun vs H Q _ => ∃ (z : Str) (p : Addr) (ts : List Str), vs = [.str z, .ref p] ∧ nm (tl z) ∧ H p = some (.lst (ts.map V.str)) ∧ ts.length < 60 ∧ ∀ y : Str, nm (tl y) → y ∉ ts → Q (.str y) H
section
variable {P : Program} {w : World} {K : PySem.W.Frag} {mg : Str → Option Value} {base : Heap}
theorem ok_unlike {f : Addr} {fd : FuncData} (B : Bi mg) (D : Dn K mg "_law_unlike" s_unlike ["name", "taken"] f fd) : FnOk P w K mg base CX0 1 f fd ["name", "taken"] spUnlike := by
  refine D.F.ok sc_unlike (fun vs H Q E h => ?_) (fun cdv A outer s H vs Q E hr h => ?_)
  · obtain ⟨z, p, ts, rfl, _⟩ := h
    rfl
  · obtain ⟨z, p, ts, rfl, hz, hp, hl, q⟩ := h
    refine ⟨_, (pss_cons (ps_if (pt_cmpR (op_ninW (K := K)) (pv 0) (pv 1) (by rfl)) (pss_one (ps_ret (pv 0))) pss_nil)
      (pss_cons (ps_for PassesOwn.never rfl (pi_range1 (by rfl) B.range (pa_cons (pe_op op_add (pe_callB (call_lenXK (K := K)) (by rfl) B.len PySem.boot_len (pa_cons (pv 1) pa_nil)) pe_int) pa_nil)) (pg_name (i := 2) sc_unlike.nd rfl (.inl rfl)) (pss_one (ps_if (pt_cmpR (op_ninW (K := K)) (pe_op op_addS pe_str (pe_callTy call_strI (by rfl) B.str_ (by decide +kernel) (pa_cons (pv 2) pa_nil))) (pv 1) (by rfl)) (pss_one (ps_ret (pe_op op_addS pe_str (pe_callTy call_strI (by rfl) B.str_ (by decide +kernel) (pa_cons (pv 2) pa_nil))))) pss_nil)))
      (pss_one (ps_ret (pv 0))))), ?_⟩
    walk_at "st"
    refine ⟨ts, .inl (sq_of hp), ite2 (fun h => q z hz h) (fun _ => ?_)⟩
    walk_at "st"
    refine ⟨_, .inl (sq_of hp), by rw [List.length_map]; omega, by rw [List.length_map]; omega, ?_⟩
    obtain ⟨j, hj, hjt⟩ := spare_free (ts := ts) (n := ts.length + 1) (by omega) (by omega)
    refine r_range (fun i σ H' => (∃ x, σ = [some (.str z), some (.ref p), x]) ∧ H' = H ∧ i ≤ j) ⟨⟨_, rfl⟩, rfl, Nat.zero_le _⟩ ?_ ?_
    · rintro i σ H' hi ⟨⟨x, rfl⟩, rfl, hij⟩ N kk
      rw [List.length_map] at hi
      have hi : i < 64 := by omega
      have e : ((0 : Int) + (i : Int)) = ((i : Nat) : Int) := Int.zero_add _
      have lg : ((0 : Int) + (i : Int)).natAbs.log2 < 1920 := by
        rw [e]
        exact (show ∀ k, k < 64 → k.log2 < 1920 by decide) i hi
      have sl := okd_len (.inr (spare_nm hi))
      rw [← len_tl, spare, app_len] at sl
      have hL : (Str.ofString "q").length + (Str.ofString (toString ((0 : Int) + (i : Int)))).length ≤ sizeLine := line_of (by rw [e]; exact Nat.le_trans sl (by decide))
      walk_at "rt"
      refine ⟨lg, hL, ts, .inl (sq_of hp), ite2 (fun h => ⟨lg, hL, ?_⟩) (fun h => kk _ _ ⟨⟨_, rfl⟩, rfl, ?_⟩)⟩
      · rw [e] at h ⊢
        exact q (spare i) (spare_nm hi) h
      · rw [e] at h
        have : i ≠ j := fun z => h (by rw [z]; exact hjt)
        omega
    · rintro σ H' ⟨⟨x, rfl⟩, rfl, hij⟩
      rw [List.length_map] at hij
      omega
theorem cut_pre (l : List Nat) (k : Nat) : cutS (S l) none (some (k : Int)) = S (l.take k) := by
  unfold cutS
  rw [HT.sIx_none, HT.sIx_nat, List.drop_zero, Nat.sub_zero]
  show S _ = _
  congr 1
  show List.take (min k (S l).length) l = _
  rw [S_len]
  by_cases h : k ≤ l.length
  · rw [Nat.min_eq_left h]
  · rw [Nat.min_eq_right (by omega), List.take_length, List.take_of_length_le (by omega)]
theorem cut_suf (l : List Nat) (k : Nat) : cutS (S l) (some (k : Int)) none = S (l.drop k) := by
  unfold cutS
  rw [HT.sIx_none, HT.sIx_nat]
  show S _ = _
  congr 1
  show List.take ((S l).length - min k (S l).length) (l.drop (min k (S l).length)) = _
  rw [S_len]
  by_cases h : k ≤ l.length
  · rw [Nat.min_eq_left h, List.take_of_length_le (by rw [List.length_drop]; exact Nat.le_refl _)]
  · rw [Nat.min_eq_right (by omega), List.drop_length, List.drop_eq_nil_of_le (by omega), List.take_nil]
theorem nm_mix {l ds : List Nat} {k : Nat} (h : nm l) (hk : 1 ≤ k) (hd : ∀ x ∈ ds, lod x) (hl : (l.take k).length + ds.length ≤ 6) : nm (l.take k ++ ds) := by
  cases l with
  | nil => cases h
  | cons x r =>
    obtain ⟨k, rfl⟩ : ∃ j, k = j + 1 := ⟨k - 1, by omega⟩
    rw [List.take_succ_cons] at hl ⊢
    refine ⟨h.1, ?_, fun y hy => ?_⟩
    · show (r.take k ++ ds).length ≤ 5
      rw [List.length_append]
      rw [List.length_cons] at hl
      omega
    · rcases List.mem_append.mp hy with hy | hy
      · exact h.2.2 y (List.mem_of_mem_take hy)
      · exact hd y hy
theorem digs_ok : ((List.range 64).all fun k => decide ((tl (Str.ofString (toString ((k : Nat) : Int)))).length ≤ 2 ∧ ∀ x ∈ tl (Str.ofString (toString ((k : Nat) : Int))), lod x)) = true := by decide +kernel
theorem digs {k : Nat} (h : k < 64) : (tl (Str.ofString (toString ((k : Nat) : Int)))).length ≤ 2 ∧ ∀ x ∈ tl (Str.ofString (toString ((k : Nat) : Int))), lod x := of_decide_eq_true (List.all_eq_true.mp digs_ok k (List.mem_range.mpr h))
theorem flat_one : ∀ cs : List Nat, (cs.map fun c => [c]).flatten = cs
  | [] => rfl
  | c :: cs => by rw [List.map_cons, List.flatten_cons, flat_one cs]; rfl
theorem sum_len' (ls : List (List Nat)) : ((ls.map S).map (·.length)).sum = ls.flatten.length := by
  induction ls with
  | nil => rfl
  | cons l ls ih => rw [List.map_cons, List.map_cons, List.sum_cons, ih, S_len, List.flatten_cons, List.length_append]
theorem perm_strs {ys : List V} {ws : List Str} (h : ys.Perm (ws.map V.str)) : ∃ zs : List Str, ys = zs.map V.str ∧ zs.Perm ws := by
  have : ∀ v ∈ ys, ∃ z, v = V.str z := fun v hv => by
    obtain ⟨z, _, e⟩ := List.mem_map.mp (h.mem_iff.mp hv)
    exact ⟨z, e.symm⟩
  have f : ∀ v : V, Str := fun v => match v with | .str z => z | _ => Str.empty
  refine ⟨ys.map (fun v => match v with | .str z => z | _ => Str.empty), ?_, ?_⟩
  · rw [List.map_map]
    refine (List.map_id ys).symm.trans (List.map_congr_left fun v hv => ?_)
    obtain ⟨z, rfl⟩ := this v hv
    rfl
  · have := h.map (fun v => match v with | V.str z => z | _ => Str.empty)
    rw [List.map_map] at this
    exact this.trans (.of_eq ((List.map_congr_left fun z _ => rfl).trans (List.map_id ws)))
/-- new names, all unlike one another and those that are taken -/
def NamesL (taken : List Str) (ws : List Str) : Prop := (∀ z ∈ ws, nm (tl z) ∧ z ∉ taken) ∧ ws.Nodup
def spNames : Sp := fun vs H Q _ => ∃ (a c p : Addr) (many : Nat) (ts : List Str), vs = [.ref a, .int many, .ref p] ∧ StoreAt H a c ∧ H p = some (.lst (ts.map V.str)) ∧ p ≠ a ∧ many ≤ 26 ∧ ts.length ≤ 30 ∧
  ∀ q ws H', StoreAt H' a c → But a H H' → H q = none → H' q = some (.lst (ws.map V.str)) → ws.length = many → NamesL ts ws → Q (.ref q) H'
theorem ok_names {f f_take f_name f_pick f_unlike f_shuffled : Addr} {fd fd_take fd_name fd_pick fd_unlike fd_shuffled : FuncData} (B : Bi mg) (D : Dn K mg "_law_names" s_names ["store", "many", "taken"] f fd) (D_take : Dn K mg "_law_take" s_take ["store", "many"] f_take fd_take)
    (D_name : Dn K mg "_law_name" s_name ["store"] f_name fd_name) (D_pick : Dn K mg "_law_pick" s_pick ["store", "row"] f_pick fd_pick) (D_unlike : Dn K mg "_law_unlike" s_unlike ["name", "taken"] f_unlike fd_unlike) (D_shuffled : Dn K mg "_law_shuffled" s_shuffled ["store", "row"] f_shuffled fd_shuffled)
    (G_take : FnOk P w K mg base CX0 2 f_take fd_take ["store", "many"] spTake) (G_name : FnOk P w K mg base CX0 5 f_name fd_name ["store"] spNam) (G_pick : FnOk P w K mg base CX0 3 f_pick fd_pick ["store", "row"] spPick) (G_unlike : FnOk P w K mg base CX0 1 f_unlike fd_unlike ["name", "taken"] spUnlike) (G_shuffled : FnOk P w K mg base CX0 3 f_shuffled fd_shuffled ["store", "row"] (spShuf K)) :
    FnOk P w K mg base CX0 6 f fd ["store", "many", "taken"] spNames := by
  refine D.F.ok sc_names (fun vs H Q E h => ?_) (fun cdv A outer s H vs Q E hr h => ?_)
  · obtain ⟨a, c, p, many, ts, rfl, _⟩ := h
    rfl
  · obtain ⟨a, c, p, many, ts, rfl, S0, hp, pa, hm, hts, q⟩ := h
    refine ⟨_, (pss_cons (ps_set (i := 3) sc_names.nd rfl (.inl rfl) (pe_call G_take (hr.mono (by omega)) (by rfl) D_take.g D_take.F.kp D_take.b .nil pass0 (pa_cons (pv 0) (pa_cons pe_int pa_nil))))
      (pss_cons (ps_set (i := 4) sc_names.nd rfl (.inl rfl) (pe_call G_name (hr.mono (by omega)) (by rfl) D_name.g D_name.F.kp D_name.b .nil pass0 (pa_cons (pv 0) pa_nil)))
      (pss_cons (ps_set (i := 5) sc_names.nd rfl (.inl rfl) (pe_call G_take (hr.mono (by omega)) (by rfl) D_take.g D_take.F.kp D_take.b .nil pass0 (pa_cons (pv 0) (pa_cons (pe_callB call_lenS (by rfl) B.len PySem.boot_len (pa_cons (pv 4) pa_nil)) pa_nil))))
      (pss_cons (ps_set (i := 6) sc_names.nd rfl (.inl rfl) (pe_lst pa_nil))
      (pss_cons (ps_for PassesOwn.never rfl (pi_range1 (by rfl) B.range (pa_cons (pv 1) pa_nil)) (pg_name (i := 7) sc_names.nd rfl (.inl rfl)) (C8.pss_cut (ps_if (PW.pt (pw_and (pt_cmpR op_lt (pv 3) pe_int (nomark _)) (pw_and1 (pt_cmpR op_lt (pv 7) pe_int (nomark _))))) (pss_one (ps_set (i := 8) sc_names.nd rfl (.inl rfl) (pe_ix ix_str pe_str (pv 7) (fun _ _ => rfl)))) (pss_one (ps_if (pt_cmpR op_eq (pv 3) pe_int (nomark _)) (pss_one (ps_set (i := 8) sc_names.nd rfl (.inl rfl) (pe_op op_addS (pe_slice sl_str (pv 4) po_none (po_some pe_int)) (pe_callTy call_strI (by rfl) B.str_ (by decide +kernel) (pa_cons (pe_call G_take (hr.mono (by omega)) (by rfl) D_take.g D_take.F.kp D_take.b .nil pass0 (pa_cons (pv 0) (pa_cons pe_int pa_nil))) pa_nil))))) (pss_one (ps_if (pt_cmpR op_eq (pv 3) pe_int (nomark _)) (pss_one (ps_set (i := 8) sc_names.nd rfl (.inl rfl) (pe_op op_addS (pe_slice sl_str (pv 4) po_none (po_some pe_int)) (pe_m1 PySem.F.slot_str_join PySem.F.type_str_join (mt_joinK (K := K)) pe_str (pe_lc (own := [("j", 9)]) (g := gName 9) (tt := tYes) (by rfl) sc_names.nd (pi_range1 (by rfl) B.range (pa_cons (pe_call G_take (hr.mono (by omega)) (by rfl) D_take.g D_take.F.kp D_take.b .nil pass0 (pa_cons (pv 0) (pa_cons pe_int pa_nil))) pa_nil)) (blkOk_by (own := [("j", 9)]) (N := ["store", "many", "taken", "kind", "stem", "at", "found", "k", "name", "j"]) (sc := defScope s_names) (by decide +kernel)) (fun _ _ _ _ _ => pg_name (i := 9) sc_names.nd rfl (Or.inl rfl)) (fun _ _ _ _ _ => pts_nil) (fun _ _ _ _ _ => (pe_call G_pick (hr.mono (by omega)) (by rfl) D_pick.g D_pick.F.kp D_pick.b .nil pass0 (pa_cons (pv 0) (pa_cons pe_str pa_nil))))))))) (pss_one (ps_if (PW.pt (pw_and (pt_cmpR op_eq (pv 3) pe_int (nomark _)) (pw_and1 (pt_cmpR op_gt (pv 5) pe_int (nomark _))))) (pss_one (ps_set (i := 8) sc_names.nd rfl (.inl rfl) (pe_op op_addS (pe_op op_addS (pe_slice sl_str (pv 4) po_none (po_some (pv 5))) (pe_call G_pick (hr.mono (by omega)) (by rfl) D_pick.g D_pick.F.kp D_pick.b .nil pass0 (pa_cons (pv 0) (pa_cons pe_str pa_nil)))) (pe_slice sl_str (pv 4) (po_some (pe_op op_add (pv 5) pe_int)) po_none)))) (pss_one (ps_if (pt_cmpR op_eq (pv 3) pe_int (nomark _)) (pss_one (ps_set (i := 8) sc_names.nd rfl (.inl rfl) (pe_op op_addS (pe_call G_pick (hr.mono (by omega)) (by rfl) D_pick.g D_pick.F.kp D_pick.b .nil pass0 (pa_cons (pv 0) (pa_cons pe_str pa_nil))) (pe_slice sl_str (pv 4) (po_some pe_int) po_none)))) (pss_one (ps_set (i := 8) sc_names.nd rfl (.inl rfl) (pe_call G_name (hr.mono (by omega)) (by rfl) D_name.g D_name.F.kp D_name.b .nil pass0 (pa_cons (pv 0) pa_nil)))))))))))))
      (pss_one (ps_expr (pe_bm PySem.F.plainAttrs_list PySem.F.slot_list_append PySem.F.type_list_append mt_append (pv 6) (pa_cons (pe_call G_unlike (hr.mono (by omega)) (by rfl) D_unlike.g D_unlike.F.kp D_unlike.b .nil pass0 (pa_cons (pv 8) (pa_cons (pe_op op_catL (pe_callTy (call_listK (K := K)) (by rfl) B.list_ (by decide +kernel) (pa_cons (pv 2) pa_nil)) (pv 6)) pa_nil))) pa_nil))))))
      (pss_one (ps_ret (pe_call G_shuffled (hr.mono (by omega)) (by rfl) D_shuffled.g D_shuffled.F.kp D_shuffled.b .nil pass0 (pa_cons (pv 0) (pa_cons (pv 6) pa_nil)))))))))), ?_⟩
    walk_at "st"
    refine ⟨a, c, _, rfl, S0, by decide, fun v H1 S1 b1 ⟨kind, e, _, _⟩ => ?_⟩
    subst e
    walk_at "st"
    refine ⟨a, c, rfl, S1, fun v H2 S2 b2 ⟨stem, e, hst⟩ => ?_⟩
    subst e
    have hsl := okd_len (.inr hst)
    walk_at "st"
    refine ⟨line_of (by rw [S_len]; omega), a, c, _, rfl, S2, by rw [S_len]; omega, fun v H3 S3 b3 ⟨at_, e, t0, t1⟩ => ?_⟩
    subst e
    rw [S_len] at t1
    walk_at "st"
    refine ⟨Nat.zero_le _, fun fo nfo => ?_⟩
    have b03 := (b1.trans b2).trans b3
    have S4 := S3.new (o := .lst []) nfo
    have hp4 : L2.upd H3 fo (.lst []) p = some (.lst (ts.map V.str)) := Keeps.new nfo _ _ (b03 p _ pa hp)
    have hf4 : L2.upd H3 fo (.lst []) fo = some (.lst []) := upd_same
    have b04 := b03.trans (Keeps.but (Keeps.new (x := .lst []) nfo))
    have nf0 : H fo = none := by
      cases e : H fo with
      | none => rfl
      | some o => have := b03 fo o (S3.ne1 nfo) e; rw [nfo] at this; cases this
    have foa := S3.ne1 nfo
    generalize L2.upd H3 fo (.lst []) = H4 at *
    walk_at "st"
    refine ⟨by omega, by omega, ?_⟩
    refine r_range (fun i σ H' => (∃ x7 x8 x9 : Option V, σ = [some (.ref a), some (.int many), some (.ref p), some (.int kind), some (.str (S stem)), some (.int at_), some (.ref fo), x7, x8, x9]) ∧ StoreAt H' a c ∧ But a H H' ∧ ∃ ws : List Str, H' fo = some (.lst (ws.map V.str)) ∧ ws.length = i ∧ NamesL ts ws)
      ⟨⟨_, _, _, rfl⟩, S4, b04, [], hf4, rfl, fun z h => (by cases h), List.nodup_nil⟩ ?_ ?_
    · rintro i σ H5 hi ⟨⟨x7, x8, x9, rfl⟩, S5, b5, ws, hw, hwl, hws⟩ N kk
      refine r_cut (fun σ H' => StoreAt H' a c ∧ But a H5 H' ∧ ∃ l, nm l ∧ ∃ x7 x9 : Option V, σ = [some (.ref a), some (.int many), some (.ref p), some (.int kind), some (.str (S stem)), some (.int at_), some (.ref fo), x7, some (.str (S l)), x9]) (fun N2 k2 => ?_) ?_
      · have put : ∀ (l : List Nat) (H' : Hp) (x7 x9 : Option V), nm l → StoreAt H' a c → But a H5 H' → N2 [some (.ref a), some (.int many), some (.ref p), some (.int kind), some (.str (S stem)), some (.int at_), some (.ref fo), x7, some (.str (S l)), x9] H' := fun l H' x7 x9 h1 h2 h3 => k2 _ _ ⟨h2, h3, l, h1, _, _, rfl⟩
        have hsz : (S stem).length ≤ sizeLine := line_of (by rw [S_len]; omega)
        have cl := fun lo hi => cut_len (S stem) lo hi
        rw [S_len] at cl
        obtain ⟨atn, rfl⟩ : ∃ n : Nat, at_ = (n : Int) := ⟨at_.toNat, by omega⟩
        have other : spNam [V.ref a] H5 (fun v H1 => N2 [some (.ref a), some (.int many), some (.ref p), some (.int kind), some (.str (S stem)), some (.int atn), some (.ref fo), some (.int (0 + (i : Int))), some v, x9] H1) E0 := ⟨a, c, rfl, S5, fun v H6 S6 b6 ⟨l, e, hl⟩ => by
          subst e
          exact put l H6 _ _ hl S6 b6⟩
        have lastA : spPick [V.ref a, V.str (Str.ofString "abcdefghijklmnopqrstuvwxyz")] H5 (fun x H1 => (S stem).length ≤ sizeLine ∧ ∃ i_1, x = V.str i_1 ∧ i_1.length + (cutS (S stem) (some 1) none).length ≤ sizeLine ∧ N2 [some (.ref a), some (.int many), some (.ref p), some (.int kind), some (.str (S stem)), some (.int atn), some (.ref fo), some (.int (0 + (i : Int))), some (.str (i_1 ++ cutS (S stem) (some 1) none)), x9] H1) E0 := by
          refine ⟨a, c, _, rfl, S5, by decide +kernel, by decide +kernel, fun v H6 S6 b6 ⟨k, hk, e⟩ => ⟨hsz, _, e, ?_⟩⟩
          have hk := (letm k).mp hk
          have ec : cutS (S stem) (some 1) none = S (stem.drop 1) := cut_suf stem 1
          rw [ec, show ({ cps := #[k] } : Str) = S [k] from rfl, S_app, S_len, S_len]
          refine ⟨line_of (by rw [List.length_drop, List.length_singleton]; omega), put _ H6 _ _ ⟨hk, ?_, fun x hx => nm_mem hst (List.mem_of_mem_drop hx)⟩ S6 b6⟩
          show (stem.drop 1).length ≤ 5
          rw [List.length_drop]
          omega
        have hsp : ∀ x ∈ stem, lod x := fun x h => nm_mem hst h
        have ids : But a H5 H5 := fun _ _ _ h => h
        have oneL : ∀ c : Nat, ({ cps := #[c] } : Str).length = 1 := fun _ => rfl
        walk_at "rt"
        refine ite2 (fun _ => ite2 (fun h26 => ⟨by rw [PySem.sizeLine_eq]; decide, ?_⟩) (fun _ => ?_)) (fun _ => ?_)
        · obtain ⟨x, hx1, hx2⟩ := atI_get (xs := (Str.ofString "abcdefghijklmnopqrstuvwxyz").cps.toList) (i := 0 + (i : Int)) (by omega) (by
            have : (Str.ofString "abcdefghijklmnopqrstuvwxyz").cps.toList.length = 26 := by decide +kernel
            omega)
          exact ⟨x, hx1, put [x] H5 _ _ (nm_one.mpr ((letm x).mp (List.mem_of_getElem? hx2))) S5 ids⟩
        all_goals
          refine ite2 (fun _ => ⟨hsz, a, c, _, rfl, S5, by decide, fun v H6 S6 b6 ⟨y, e, y0, y1⟩ => ⟨y, e, ?_⟩⟩) (fun _ => ite2 (fun _ => ⟨hsz, a, c, _, rfl, S5, by decide, fun v H6 S6 b6 ⟨y, e, y0, y1⟩ => ⟨y, e, by omega, by omega, fun Dd nD => ?_⟩⟩) (fun _ => ite2 (fun _ => ite2 (fun h0 => ⟨hsz, ?_⟩) (fun h0 => ?_)) (fun _ => ?_)))
          · obtain ⟨k, rfl⟩ : ∃ n : Nat, y = (n : Int) := ⟨y.toNat, by omega⟩
            obtain ⟨d1, d2⟩ := digs (k := k) (by omega)
            have lg : ((k : Int)).natAbs.log2 < 1920 := (show ∀ k, k < 64 → k.log2 < 1920 by decide) k (by omega)
            have ec : cutS (S stem) none (some 2) = S (stem.take 2) := cut_pre stem 2
            rw [ec]
            have el : (stem.take 2).length ≤ 2 := List.length_take_le _ _
            refine ⟨lg, line_of (by rw [S_len, len_tl]; omega), ?_⟩
            rw [show (Str.ofString (toString (k : Int))) = S (tl (Str.ofString (toString (k : Int)))) from (S_tl _).symm, S_app]
            exact put _ H6 _ _ (nm_mix hst (by decide) d2 (by omega)) S6 b6
          · refine r_lcRT (n := y.toNat) (fun i H' => StoreAt H' a c ∧ But a H5 H' ∧ ∃ cs : List Nat, cs.length = i ∧ (∀ x ∈ cs, lod x) ∧ H' Dd = some (.lst ((cs.map fun c => S [c]).map V.str))) (fun _ => rfl) ⟨S6.new nD, b6.trans (Keeps.but (Keeps.new nD)), [], rfl, fun _ h => (by cases h), upd_same⟩ ?_ ?_
            · rintro i H7 hi ⟨S7, b7, cs, hcl, hcs, hD⟩ N M kN _
              simp only [tYes, if_pos]
              walk_at "rt"
              refine ⟨a, c, _, rfl, S7, by decide +kernel, by decide +kernel, fun v H8 S8 b8 ⟨k, hk, e⟩ => ?_⟩
              subst e
              have hk : k ∈ [97, 98, 48] := by
                have : (Str.ofString "ab0").cps.toList = [97, 98, 48] := by decide +kernel
                rw [← this]; exact hk
              have hk : lod k := by
                simp only [List.mem_cons, List.not_mem_nil, or_false] at hk
                rcases hk with rfl | rfl | rfl
                · exact .inl ⟨by decide, by decide⟩
                · exact .inl ⟨by decide, by decide⟩
                · exact .inr ⟨by decide, by decide⟩
              have Da := S6.ne1 nD
              have hD8 := b8 Dd _ Da hD
              have Dc : Dd ≠ c := S6.ne2 nD
              refine kN _ H8 _ hD8 (size_ok (by rw [List.length_map, List.length_map, hcl]; omega)) ⟨S8.put Da Dc, fun b o hb e => ?_, cs ++ [k], by rw [List.length_append, hcl]; rfl, fun x hx => ?_, by rw [upd_same, List.map_append, List.map_append]; rfl⟩
              · rw [upd_ne (fun z => by
                  rw [z] at e
                  have := b6 Dd _ Da e
                  rw [nD] at this
                  cases this)]
                exact (b7.trans b8) b o hb e
              · rcases List.mem_append.mp hx with hx | hx
                · exact hcs x hx
                · rw [List.mem_singleton.mp hx]; exact hk
            · rintro H7 ⟨S7, b7, cs, hcl, hcs, hD⟩
              have ej : Txt.join (Str.ofString "") (cs.map fun c => S [c]) = S cs := by
                have e0 : (cs.map fun c => S [c]) = (cs.map fun c => [c]).map S := by rw [List.map_map]; rfl
                rw [S_emp, e0, join_S]
                rw [flat_one]
              have ec : cutS (S stem) none (some 3) = S (stem.take 3) := cut_pre stem 3
              have el : (stem.take 3).length ≤ 3 := List.length_take_le _ _
              refine ⟨cs.map fun c => S [c], sq_of hD, ?_, ?_, ?_⟩
              · have e0 : (cs.map fun c => S [c]) = (cs.map fun c => [c]).map S := by rw [List.map_map]; rfl
                rw [e0, sum_len', S_emp, S_len, List.length_nil, Nat.mul_zero, Nat.add_zero]
                have : ((cs.map fun c => [c]).flatten).length = cs.length := by rw [flat_one]
                omega
              · rw [ej, ec, S_len, S_len]
                exact line_of (by omega)
              · rw [ej, ec, S_app]
                exact put _ H7 _ _ (nm_mix hst (by decide) hcs (by omega)) S7 b7
          · refine ⟨a, c, _, rfl, S5, by decide +kernel, by decide +kernel, fun v H6 S6 b6 ⟨k, hk, e⟩ => ⟨{ cps := #[k] }, e, ?_⟩⟩
            have hk := (lodm k).mp hk
            have c1 := cl none (some (atn : Int))
            have c2 := cl (some ((atn : Int) + 1)) none
            refine ⟨line_of (by rw [oneL]; omega), hsz, line_of (by rw [app_len, oneL]; omega), ?_⟩
            have e1 : ((atn : Int) + 1) = ((atn + 1 : Nat) : Int) := by omega
            rw [e1, cut_pre, cut_suf, show ({ cps := #[k] } : Str) = S [k] from rfl, S_app, S_app, List.append_assoc]
            refine put _ H6 _ _ (nm_mix hst (by omega) (fun x hx => ?_) ?_) S6 b6
            · rcases List.mem_append.mp hx with hx | hx
              · rw [List.mem_singleton.mp hx]; exact hk
              · exact hsp x (List.mem_of_mem_drop hx)
            · rw [List.length_append, List.length_take, List.length_drop, List.length_singleton]
              omega
          · exact ite2 (fun _ => lastA) (fun _ => other)
          · exact ite2 (fun _ => lastA) (fun _ => other)
      rintro σ H6 ⟨S6, b6, l, hl, x7, x9, rfl⟩
      have hw6 := b6 fo _ foa hw
      have hp6 := (b5.trans b6) p _ pa hp
      walk_at "rt"
      refine ⟨.inl ⟨rfl, _, sq_of hw6⟩, _, .inl (sq_of hp6), fun l1 nl1 => ⟨_, upd_same, _, Keeps.new nl1 _ _ hw6, line_of (by rw [List.length_map, List.length_map]; omega), fun l2 nl2 => ?_⟩⟩
      have k2 : Keeps H6 (L2.upd (L2.upd H6 l1 (.lst (ts.map V.str))) l2 (.lst (ts.map V.str ++ ws.map V.str))) := (Keeps.new nl1).trans (Keeps.new nl2)
      have h2 : L2.upd (L2.upd H6 l1 (.lst (ts.map V.str))) l2 (.lst (ts.map V.str ++ ws.map V.str)) l2 = some (.lst ((ts ++ ws).map V.str)) := by rw [upd_same, List.map_append]
      generalize L2.upd (L2.upd H6 l1 (.lst (ts.map V.str))) l2 (.lst (ts.map V.str ++ ws.map V.str)) = H7 at *
      refine ⟨S l, l2, ts ++ ws, rfl, by rw [tl_S]; exact hl, h2, by rw [List.length_append]; omega, fun y hy hn => ?_⟩
      rw [List.mem_append, not_or] at hn
      refine ⟨_, k2 _ _ hw6, size_ok (by rw [List.length_map]; omega), kk _ _ ⟨⟨_, _, _, rfl⟩, (Keeps.store S6 k2).put foa (S0.ne2 nf0), ?_, ws ++ [y], by rw [upd_same, List.map_append]; rfl, by rw [List.length_append, hwl]; rfl, fun z hz => ?_, ?_⟩⟩
      · exact fun b o hb e => by
          rw [upd_ne (fun z => by rw [z, nf0] at e; cases e)]
          exact k2 _ _ ((b5.trans b6) b o hb e)
      · rcases List.mem_append.mp hz with hz | hz
        · exact hws.1 z hz
        · rw [List.mem_singleton.mp hz]
          exact ⟨hy, hn.1⟩
      · refine List.nodup_append.mpr ⟨hws.2, by simp, fun x hx z hz e => hn.2 ?_⟩
        rw [List.mem_singleton.mp hz] at e
        rw [← e]
        exact hx
    · rintro σ H5 ⟨⟨x7, x8, x9, rfl⟩, S5, b5, ws, hw, hwl, hws⟩
      walk_at "rt"
      refine ⟨a, c, fo, _, rfl, S5, hw, foa, by rw [List.length_map]; omega, fun r ys H6 S6 b6 nr hr' hpm => ?_⟩
      obtain ⟨zs, rfl, hz⟩ := perm_strs hpm
      refine q r zs H6 S6 (b5.trans b6) ?_ hr' (by rw [hz.length_eq, hwl]; omega) ⟨fun z h => hws.1 z (hz.mem_iff.mp h), hz.nodup_iff.mpr hws.2⟩
      cases e : H r with
      | none => rfl
      | some o => have := b5 r o (S5.ne1 nr) e; rw [nr] at this; cases this
end
end K01
namespace K01
open PySem PySem.Spec PyProof.Rows L2 TL HotExc Tw
local macro_rules | `(tactic| walk_at "rd") => `(tactic| simp only [start1, wipe, isR, isBool, isInt, isStr, isLst, isTup, tAsg, gName, gSub, tVar, tC, tOp, tUn, tTest, tIfS, tRet, tRetN, tDrop, tB, tAnd, tOr, tNot, tAndV, tOrV, tNotV, tIf, tCB, tCons, tNil, tNext, tCall, tBM, tTup, tLst, rU, rInW, rNinW, Int.reduceNeg, tG, tG2, sP, tDisp, tPairs, tCallS, tCallSD, tCallT, StX.tStar, tCallK, tCallKS, rTupOf, tDrop, rI0, rI, rEq, rNe, scal, forR_eq, forR2_eq, forS_eq, forL_eq, lcT_eq, lcRT_eq, lcS_eq, rLenX, rLenS, rListOf, tRevL, rMulS, rRepL, rCatL, rSumN, rMaxN, tBM0, rPop, tAug, ipI,  tPart, tNoPart, CwR.tReplC, rAllK, rInSg, rNinSg, sgn_inj, rAddS, rInSt, tChain, tM1, tM0, rSplitN, rJoinN, exists_eq, rIntI, rIntB, rIntS, rStrI, rAbs, rOrd, rMin, rMax, rIxL, rIxX, rSetL, rAppend, rIxS, rSlS, rSlL, tSl, List.map_cons, List.map_nil, List.replicate_succ, List.replicate_zero, List.length_cons, List.length_nil, Nat.reduceSub, Nat.reduceAdd, Nat.zero_add, Nat.sub_self, List.getElem?_cons_zero, List.getElem?_cons_succ, List.set_cons_zero, List.set_cons_succ, List.append_nil, List.nil_append, List.cons_append, Option.some.injEq, not_true_eq_false, reduceCtorEq, exists_eq_left', exists_eq_left, exists_eq', exists_and_left, exists_and_right, V.int.injEq, V.str.injEq, V.bl.injEq, V.ref.injEq, List.cons.injEq, and_true, true_and, and_assoc, decide_eq_true_eq, Bool.not_eq_true', decide_eq_false_iff_not, ite_true, ite_false, if_true, if_false, Bool.not_true, Bool.not_false, Bool.false_eq_true, eq_self_iff_true, reduceIte, ne_eq, Int.reduceEq, not_false_eq_true])
local macro_rules | `(tactic| walk_at "rt") => `(tactic| try walk_at "rd")
local macro_rules | `(tactic| walk_at "st") => `(tactic| (walk_at "rt"; refine r_seq ?_; walk_at "rt"))
local macro_rules | `(tactic| walk_at "hp") => `(tactic| first | assumption | exact upd_same | (rw [upd_ne (by assumption)]; walk_at "hp"))
local macro_rules | `(tactic| walk_at "ex1") => `(tactic| ((with_reducible refine Exists.intro ?w (And.intro ?hx ?_)); (case hx => first | exact sq_of (by walk_at "hp") | exact .inl (sq_of (by walk_at "hp")) | exact rfl | (show _ = some (HO.lst _); walk_at "hp"))))
local macro_rules | `(tactic| walk_at "ex") => `(tactic| repeat (first | walk_at "ex1" | walk_at "rd"))

/-! ### some of a row -/
theorem cutV_sub (xs : List V) (lo hi : Option Int) : (cutV xs lo hi).Sublist xs := by
  unfold cutV
  exact (List.take_sublist _ _).trans (List.drop_sublist _ _)
theorem cutV_to (xs : List V) (k : Nat) : cutV xs none (some (k : Int)) = xs.take k := by
  by_cases h : k ≤ xs.length
  · exact cut_to h
  · unfold cutV
    rw [HT.sIx_none, HT.sIx_nat, List.drop_zero, Nat.sub_zero, Nat.min_eq_right (by omega), List.take_length, List.take_of_length_le (by omega)]
theorem cutV_from (xs : List V) (k : Nat) : cutV xs (some (k : Int)) none = xs.drop k := by
  by_cases h : k ≤ xs.length
  · exact cut_from h
  · unfold cutV
    rw [HT.sIx_none, HT.sIx_nat, Nat.min_eq_right (by omega), List.drop_length, List.drop_eq_nil_of_le (by omega), List.take_nil]
theorem skip_sub (xs : List V) (k : Nat) : (xs.take k ++ xs.drop (k + 1)).Sublist xs := by
  have h : (xs.take k ++ xs.drop (k + 1)).Sublist (xs.take k ++ xs.drop k) := (List.Sublist.refl _).append (by rw [← List.drop_drop]; exact List.drop_sublist _ _)
  rw [List.take_append_drop] at h
  exact h
theorem sum_take' {α : Type} {l : List α} {i : Nat} {x : α} (h : l[i]? = some x) : l.take (i + 1) = l.take i ++ [x] := by rw [List.take_add_one, h]; rfl
def spSome : Sp := fun vs H Q _ => ∃ (a c p : Addr) (xs : List V), vs = [.ref a, .ref p] ∧ StoreAt H a c ∧ H p = some (.lst xs) ∧ p ≠ a ∧ xs.length ≤ 1000 ∧
  ∀ q ys H', StoreAt H' a c → But a H H' → H q = none → H' q = some (.lst ys) → ys.Sublist xs → Q (.ref q) H'
section
variable {P : Program} {w : World} {K : PySem.W.Frag} {mg : Str → Option Value} {base : Heap}
end
end K01
namespace K01
open PySem PySem.Spec PyProof.Rows L2 TL HotExc Tw
/-! ### the pairs of a shape: which step of the loop makes a pair -/
/-- the pair x, y may be made at step k -/
def Made (kind cut : Int) (k x y : Int) : Prop := 0 ≤ x ∧ x < y ∧ (kind = 1 → x + 1 = y) ∧ (kind ≠ 10 → y = k) ∧ (kind = 10 → ∃ t, (t = 0 ∧ k % 2 = 0 ∨ t = cut ∧ k % 2 = 1) ∧ t ≠ k ∧ (x = t ∧ y = k ∨ x = k ∧ y = t))
theorem Made.one {kind cut k l x y : Int} (hc : 0 ≤ cut) (hk : 1 ≤ k) (hl : 1 ≤ l) (hkc : kind = 10 → k ≠ cut) (hlc : kind = 10 → l ≠ cut) (h : Made kind cut k x y) (g : Made kind cut l x y) : k = l := by
  obtain ⟨_, _, _, h4, h5⟩ := h
  obtain ⟨_, _, _, g4, g5⟩ := g
  by_cases e : kind = 10
  · obtain ⟨t, ht, htk, h6⟩ := h5 e
    obtain ⟨u, hu, huk, g6⟩ := g5 e
    have := hkc e
    have := hlc e
    omega
  · rw [← h4 e, ← g4 e]
/-- the pairs that stand in a list -/
def PrsAt (H : Hp) (a : Addr) (ps : List (Int × Int)) (vs : List V) : Prop := vs.length = ps.length ∧ ∀ (i : Nat) p v, ps[i]? = some p → vs[i]? = some v → ∃ t, v = .ref t ∧ t ≠ a ∧ H t = some (.tup [.int p.1, .int p.2])
theorem PrsAt.but {H H' : Hp} {a : Addr} {ps : List (Int × Int)} {vs : List V} (h : PrsAt H a ps vs) (k : But a H H') : PrsAt H' a ps vs := ⟨h.1, fun i p v e1 e2 => by
  obtain ⟨t, e, ht, hx⟩ := h.2 i p v e1 e2
  exact ⟨t, e, ht, k t _ ht hx⟩⟩
theorem PrsAt.put {H : Hp} {a q : Addr} {o : HO} {ys : List V} {ps : List (Int × Int)} {vs : List V} (h : PrsAt H a ps vs) (hq : H q = some (.lst ys) ∨ H q = none) : PrsAt (L2.upd H q o) a ps vs := ⟨h.1, fun i p v e1 e2 => by
  obtain ⟨t, e, ht, hx⟩ := h.2 i p v e1 e2
  refine ⟨t, e, ht, (upd_ne fun z => ?_).trans hx⟩
  rw [z] at hx
  rcases hq with hq | hq
  · rw [hq] at hx; cases hx
  · rw [hq] at hx; cases hx⟩
theorem PrsAt.snoc {H : Hp} {a t : Addr} {ps : List (Int × Int)} {vs : List V} {x y : Int} (h : PrsAt H a ps vs) (ht : t ≠ a) (hx : H t = some (.tup [.int x, .int y])) : PrsAt H a (ps ++ [(x, y)]) (vs ++ [.ref t]) := by
  refine ⟨by rw [List.length_append, List.length_append, h.1]; rfl, fun i p v e1 e2 => ?_⟩
  by_cases hi : i < ps.length
  · rw [List.getElem?_append_left hi] at e1
    rw [List.getElem?_append_left (by rw [h.1]; exact hi)] at e2
    exact h.2 i p v e1 e2
  · have hl := lt_of_get e1
    rw [List.length_append, List.length_singleton] at hl
    have : i = ps.length := by omega
    subst this
    rw [List.getElem?_append_right (Nat.le_refl _), Nat.sub_self] at e1
    rw [List.getElem?_append_right (by rw [h.1]; exact Nat.le_refl _), h.1, Nat.sub_self] at e2
    cases e1
    cases e2
    exact ⟨t, rfl, ht, hx⟩
/-! ### sorted of texts -/
def rSortedSN (K : PySem.W.Frag) (xs : List V) (H : Hp) (Q : VK) : Prop := ∃ a, xs = [V.ref a] ∧ ∃ ws : List Str, SqL K H a (ws.map V.str) ∧ ws.length < 64 ∧ ∀ (ys : List Str) (p : Addr), ys.Perm ws → sortedS ys = true → H p = none → Q (.ref p) (L2.upd H p (.lst (ys.map V.str)))
theorem call_sortedSK {X : Cx} {K : PySem.W.Frag} (h : X.K = K := by rfl) : CallR X (.builtin "sorted") (rSortedSN K) := h ▸ callR_mono cr_sortedS fun _ _ _ ⟨a, e, ws, h1, h2, q⟩ => ⟨a, ws, e, h1, h2, q⟩
end K01
namespace K01
open PySem PySem.Spec PyProof.Rows L2 TL HotExc Tw
local macro_rules | `(tactic| walk_at "rd") => `(tactic| simp only [start1, wipe, isR, isBool, isInt, isStr, isLst, isTup, tAsg, gName, gSub, tVar, tC, tOp, tUn, tTest, tIfS, tRet, tRetN, tDrop, tB, tAnd, tOr, tNot, tAndV, tOrV, tNotV, tIf, tCB, tCons, tNil, tNext, tCall, tBM, tTup, tLst, rU, rInW, rNinW, Int.reduceNeg, tG, tG2, sP, tDisp, tPairs, tCallS, tCallSD, tCallT, StX.tStar, tCallK, tCallKS, rTupOf, tDrop, rI0, rI, rEq, rNe, scal, forR_eq, forR2_eq, forS_eq, forL_eq, lcT_eq, lcRT_eq, lcS_eq, rLenX, rLenS, rListOf, tRevL, rMulS, rRepL, rCatL, rSumN, rMaxN, tBM0, rPop, tAug, ipI,  tPart, tNoPart, CwR.tReplC, rAllK, rInSg, rNinSg, sgn_inj, rAddS, rInSt, tChain, tM1, tM0, rSplitN, rJoinN, exists_eq, rIntI, rIntB, rIntS, rStrI, rAbs, rOrd, rMin, rMax, rIxL, rIxX, rSetL, rAppend, rIxS, rSlS, rSlL, tSl, List.map_cons, List.map_nil, List.replicate_succ, List.replicate_zero, List.length_cons, List.length_nil, Nat.reduceSub, Nat.reduceAdd, Nat.zero_add, Nat.sub_self, List.getElem?_cons_zero, List.getElem?_cons_succ, List.set_cons_zero, List.set_cons_succ, List.append_nil, List.nil_append, List.cons_append, Option.some.injEq, not_true_eq_false, reduceCtorEq, exists_eq_left', exists_eq_left, exists_eq', exists_and_left, exists_and_right, V.int.injEq, V.str.injEq, V.bl.injEq, V.ref.injEq, List.cons.injEq, and_true, true_and, and_assoc, decide_eq_true_eq, Bool.not_eq_true', decide_eq_false_iff_not, ite_true, ite_false, if_true, if_false, Bool.not_true, Bool.not_false, Bool.false_eq_true, eq_self_iff_true, reduceIte, ne_eq, Int.reduceEq, not_false_eq_true])
local macro_rules | `(tactic| walk_at "rt") => `(tactic| try walk_at "rd")
local macro_rules | `(tactic| walk_at "st") => `(tactic| (walk_at "rt"; refine r_seq ?_; walk_at "rt"))
local macro_rules | `(tactic| walk_at "hp") => `(tactic| first | assumption | exact upd_same | (rw [upd_ne (by assumption)]; walk_at "hp"))
local macro_rules | `(tactic| walk_at "ex1") => `(tactic| ((with_reducible refine Exists.intro ?w (And.intro ?hx ?_)); (case hx => first | exact sq_of (by walk_at "hp") | exact .inl (sq_of (by walk_at "hp")) | exact rfl | (show _ = some (HO.lst _); walk_at "hp"))))
local macro_rules | `(tactic| walk_at "ex") => `(tactic| repeat (first | walk_at "ex1" | walk_at "rd"))
abbrev s_shape : Stmt := topS 67
theorem sc_shape : FnScope ["store", "many", "bound", "kind", "wide", "cut", "pairs", "k", "j"] ["store", "many", "bound"] (defScope s_shape) := ⟨rfl, rfl, rfl, by decide +kernel, rfl, by decide +kernel, by decide +kernel⟩
/-- pairs of numbers below many, all unlike, at most so many -/
def PrsL (many : Int) (ps : List (Int × Int)) : Prop := ps.Nodup ∧ ∀ p ∈ ps, 0 ≤ p.1 ∧ p.1 < p.2 ∧ p.2 < many
def spShape : Sp := fun vs H Q _ => ∃ (a c : Addr) (many bound : Int), vs = [.ref a, .int many, .int bound] ∧ StoreAt H a c ∧ 1 ≤ many ∧ many ≤ 26 ∧ 0 ≤ bound ∧ bound ≤ 100 ∧
  ∀ q ps vs H', StoreAt H' a c → But a H H' → H q = none → H' q = some (.lst vs) → PrsAt H' a ps vs → PrsL many ps → (ps.length : Int) ≤ bound → Q (.ref q) H'
/-- the pairs that stand after some steps of the loop -/
structure Shp (H0 H : Hp) (a c : Addr) (many kind cut : Int) (pl : Addr) (ps : List (Int × Int)) (vs : List V) (k : Int) (n : Nat) : Prop where
  S : StoreAt H a c
  bt : But a H0 H
  new : H0 pl = none
  pa : pl ≠ a
  hp : H pl = some (.lst vs)
  at' : PrsAt H a ps vs
  nd : ps.Nodup
  made : ∀ p ∈ ps, ∃ l, 1 ≤ l ∧ l < k ∧ (kind = 10 → l ≠ cut) ∧ Made kind cut l p.1 p.2 ∧ p.2 < many
  len : ps.length ≤ n
theorem Shp.to {H0 H H' : Hp} {a c : Addr} {many kind cut : Int} {pl : Addr} {ps : List (Int × Int)} {vs : List V} {k k' : Int} {n n' : Nat} (R : Shp H0 H a c many kind cut pl ps vs k n) (S : StoreAt H' a c) (b : But a H H') (hk : k ≤ k') (hn : n ≤ n') : Shp H0 H' a c many kind cut pl ps vs k' n' :=
  ⟨S, R.bt.trans b, R.new, R.pa, b _ _ R.pa R.hp, R.at'.but b, R.nd, fun p hp => by
    obtain ⟨l, h1, h2, h3⟩ := R.made p hp
    exact ⟨l, h1, by omega, h3⟩, Nat.le_trans R.len hn⟩
/-- one pair more -/
theorem Shp.add {H0 H : Hp} {a c : Addr} {many kind cut : Int} {pl : Addr} {ps : List (Int × Int)} {vs : List V} {k : Int} {n : Nat} (R : Shp H0 H a c many kind cut pl ps vs k n) (hne : pl ≠ c) {t : Addr} {x y : Int} (ht : H t = none) (hc : 0 ≤ cut) (hk : 1 ≤ k) (hkc : kind = 10 → k ≠ cut) (hm : Made kind cut k x y) (hy : y < many) :
    Shp H0 (L2.upd (L2.upd H t (.tup [.int x, .int y])) pl (.lst (vs ++ [.ref t]))) a c many kind cut pl (ps ++ [(x, y)]) (vs ++ [.ref t]) (k + 1) (n + 1) := by
  have tp : t ≠ pl := fun z => by have := R.hp; rw [← z, ht] at this; cases this
  have ta : t ≠ a := R.S.ne1 ht
  refine ⟨(R.S.new ht).put R.pa hne, fun b o hb e => ?_, R.new, R.pa, upd_same, ?_, ?_, fun p hp => ?_, ?_⟩
  · rw [upd_ne (fun z => by rw [z, R.new] at e; cases e)]
    exact Keeps.new ht _ _ (R.bt b o hb e)
  · exact PrsAt.put (((R.at'.put (ys := []) (.inr ht))).snoc ta upd_same) (.inl ((upd_ne tp.symm).trans R.hp))
  · refine List.nodup_append.mpr ⟨R.nd, by simp, fun p hp q hq z => ?_⟩
    rw [List.mem_singleton.mp hq] at z
    obtain ⟨l, h1, h2, h3, h4, _⟩ := R.made p hp
    rw [z] at h4
    have := Made.one hc h1 hk h3 hkc h4 hm
    omega
  · rcases List.mem_append.mp hp with hp | hp
    · obtain ⟨l, h1, h2, h3⟩ := R.made p hp
      exact ⟨l, h1, by omega, h3⟩
    · rw [List.mem_singleton.mp hp]
      exact ⟨k, hk, by omega, hkc, hm, hy⟩
  · rw [List.length_append]
    exact Nat.succ_le_succ R.len
/-- one pair more at any step, when it is new -/
theorem Shp.push {H0 H : Hp} {a c : Addr} {many kind cut : Int} {pl : Addr} {ps : List (Int × Int)} {vs : List V} {k l : Int} {n : Nat} (R : Shp H0 H a c many kind cut pl ps vs k n) (hne : pl ≠ c) {t : Addr} {x y : Int} (ht : H t = none) (nin : (x, y) ∉ ps) (hl : 1 ≤ l) (hlk : l < k) (hkc : kind = 10 → l ≠ cut) (hm : Made kind cut l x y) (hy : y < many) :
    Shp H0 (L2.upd (L2.upd H t (.tup [.int x, .int y])) pl (.lst (vs ++ [.ref t]))) a c many kind cut pl (ps ++ [(x, y)]) (vs ++ [.ref t]) k (n + 1) := by
  have ta : t ≠ a := R.S.ne1 ht
  refine ⟨(R.S.new ht).put R.pa hne, fun b o hb e => ?_, R.new, R.pa, upd_same, ?_, List.nodup_append.mpr ⟨R.nd, by simp, fun p hp q hq z => ?_⟩, fun p hp => ?_, ?_⟩
  · rw [upd_ne (fun z => by rw [z, R.new] at e; cases e)]
    exact Keeps.new ht _ _ (R.bt b o hb e)
  · exact PrsAt.put (((R.at'.put (ys := []) (.inr ht))).snoc ta upd_same) (.inl ((upd_ne (fun z => by have := R.hp; rw [z, ht] at this; cases this)).trans R.hp))
  · rw [List.mem_singleton.mp hq] at z
    exact nin (z ▸ hp)
  · rcases List.mem_append.mp hp with hp | hp
    · exact R.made p hp
    · rw [List.mem_singleton.mp hp]
      exact ⟨l, hl, hlk, hkc, hm, hy⟩
  · rw [List.length_append]
    exact Nat.succ_le_succ R.len
theorem PrsAt.app {H : Hp} {a : Addr} {ps qs : List (Int × Int)} {vs us : List V} (h : PrsAt H a ps vs) (g : PrsAt H a qs us) : PrsAt H a (ps ++ qs) (vs ++ us) := by
  refine ⟨by rw [List.length_append, List.length_append, h.1, g.1], fun i p v e1 e2 => ?_⟩
  by_cases hi : i < ps.length
  · rw [List.getElem?_append_left hi] at e1
    rw [List.getElem?_append_left (by rw [h.1]; exact hi)] at e2
    exact h.2 i p v e1 e2
  · rw [List.getElem?_append_right (by omega)] at e1
    rw [List.getElem?_append_right (by rw [h.1]; omega), h.1] at e2
    exact g.2 _ p v e1 e2
theorem PrsAt.take {H : Hp} {a : Addr} {ps : List (Int × Int)} {vs : List V} (h : PrsAt H a ps vs) (k : Nat) : PrsAt H a (ps.take k) (vs.take k) := by
  refine ⟨by rw [List.length_take, List.length_take, h.1], fun i p v e1 e2 => ?_⟩
  rw [List.getElem?_take] at e1 e2
  split at e1
  · rename_i hi
    rw [if_pos hi] at e2
    exact h.2 i p v e1 e2
  · cases e1
theorem PrsAt.cons {H : Hp} {a : Addr} {ps : List (Int × Int)} {v : V} {vs : List V} (h : PrsAt H a ps (v :: vs)) : ∃ p qs, ps = p :: qs ∧ (∃ t, v = .ref t ∧ t ≠ a ∧ H t = some (.tup [.int p.1, .int p.2])) ∧ PrsAt H a qs vs := by
  cases ps with
  | nil => exact absurd h.1 (by simp)
  | cons p qs => exact ⟨p, qs, rfl, h.2 0 p v rfl rfl, by have := h.1; simp at this; exact this, fun i x y e1 e2 => h.2 (i + 1) x y e1 e2⟩
theorem PrsAt.mk {H : Hp} {a : Addr} {p : Int × Int} {ps : List (Int × Int)} {v : V} {vs : List V} (h1 : ∃ t, v = .ref t ∧ t ≠ a ∧ H t = some (.tup [.int p.1, .int p.2])) (h : PrsAt H a ps vs) : PrsAt H a (p :: ps) (v :: vs) := by
  refine ⟨by rw [List.length_cons, List.length_cons, h.1], fun i x y e1 e2 => ?_⟩
  cases i with
  | zero => cases e1; cases e2; exact h1
  | succ i => exact h.2 i x y e1 e2
theorem PrsAt.perm' {H : Hp} {a : Addr} {vs ys : List V} (h : vs.Perm ys) : ∀ {ps : List (Int × Int)}, PrsAt H a ps vs → ∃ qs, qs.Perm ps ∧ PrsAt H a qs ys := by
  induction h with
  | nil => exact fun {ps} h => ⟨ps, List.Perm.refl _, h⟩
  | cons x _ ih =>
    intro ps h
    obtain ⟨p, qs, rfl, h1, h2⟩ := h.cons
    obtain ⟨rs, h3, h4⟩ := ih h2
    exact ⟨p :: rs, h3.cons p, PrsAt.mk h1 h4⟩
  | swap x y l =>
    intro ps h
    obtain ⟨p, qs, rfl, h1, h2⟩ := h.cons
    obtain ⟨p2, qs2, rfl, h3, h4⟩ := h2.cons
    exact ⟨p2 :: p :: qs2, List.Perm.swap _ _ _, PrsAt.mk h3 (PrsAt.mk h1 h4)⟩
  | trans _ _ ih1 ih2 =>
    intro ps h
    obtain ⟨q1, h1, h2⟩ := ih1 h
    obtain ⟨q2, h3, h4⟩ := ih2 h2
    exact ⟨q2, h3.trans h1, h4⟩
theorem PrsAt.perm {H : Hp} {a : Addr} {vs ys : List V} {ps : List (Int × Int)} (h : PrsAt H a ps vs) (p : ys.Perm vs) : ∃ qs, qs.Perm ps ∧ PrsAt H a qs ys := PrsAt.perm' p.symm h
/-- a row of pairs with one second more -/
theorem Shp.row {H0 H H' : Hp} {a c : Addr} {many kind cut : Int} {pl q : Addr} {ps qs : List (Int × Int)} {vs us : List V} {k : Int} {n : Nat} (R : Shp H0 H a c many kind cut pl ps vs k n) (hk : 1 ≤ k) (hkd : kind ≠ 10) (hk1 : kind ≠ 1) (hkm : k < many) (S : StoreAt H' a c) (b : But a H H') (nq : H' q = none) (g : PrsAt H' a qs us)
    (hq : ∀ p ∈ qs, 0 ≤ p.1 ∧ p.1 < k ∧ p.2 = k) (qn : qs.Nodup) (ql : qs.length ≤ 26) : Shp H0 (L2.upd H' q (.lst (vs ++ us))) a c many kind cut q (ps ++ qs) (vs ++ us) (k + 1) (n + 26) := by
  have hnq : H0 q = none := by
    cases e : H0 q with
    | none => rfl
    | some o => have := (R.bt.trans b) q o (S.ne1 nq) e; rw [nq] at this; cases this
  refine ⟨S.new nq, (R.bt.trans b).trans (Keeps.but (Keeps.new nq)), hnq, S.ne1 nq, upd_same, ((R.at'.but b).app g).put (ys := []) (.inr nq), List.nodup_append.mpr ⟨R.nd, qn, fun x hx y hy z => ?_⟩, fun p hp => ?_, ?_⟩
  · obtain ⟨l, _, h2, _, h4, _⟩ := R.made x hx
    have e1 := h4.2.2.2.1 hkd
    have e2 := (hq y hy).2.2
    rw [z] at e1
    omega
  · rcases List.mem_append.mp hp with hp | hp
    · obtain ⟨l, h1, h2, h3⟩ := R.made p hp
      exact ⟨l, h1, by omega, h3⟩
    · obtain ⟨h1, h2, h3⟩ := hq p hp
      exact ⟨k, hk, by omega, fun z => absurd z hkd, ⟨h1, by omega, fun z => absurd z hk1, fun _ => h3, fun z => absurd z hkd⟩, by omega⟩
  · rw [List.length_append]
    have := R.len
    omega
section
variable {P : Program} {w : World} {K : PySem.W.Frag} {mg : Str → Option Value} {base : Heap}
theorem ok_shape {f f_take f_chance f_shuffled : Addr} {fd fd_take fd_chance fd_shuffled : FuncData} (B : Bi mg) (D : Dn K mg "_law_shape" s_shape ["store", "many", "bound"] f fd) (D_take : Dn K mg "_law_take" s_take ["store", "many"] f_take fd_take) (D_chance : Dn K mg "_law_chance" s_chance ["store", "many"] f_chance fd_chance) (D_shuffled : Dn K mg "_law_shuffled" s_shuffled ["store", "row"] f_shuffled fd_shuffled)
    (G_take : FnOk P w K mg base CX0 2 f_take fd_take ["store", "many"] spTake) (G_chance : FnOk P w K mg base CX0 3 f_chance fd_chance ["store", "many"] spChance) (G_shuffled : FnOk P w K mg base CX0 3 f_shuffled fd_shuffled ["store", "row"] (spShuf K)) : FnOk P w K mg base CX0 4 f fd ["store", "many", "bound"] spShape := by
  refine D.F.ok sc_shape (fun vs H Q E h => ?_) (fun cdv A outer s H vs Q E hr h => ?_)
  · obtain ⟨a, c, many, bound, rfl, _⟩ := h
    rfl
  · obtain ⟨a, c, many, bound, rfl, S0, hm1, hm2, hb1, hb2, q⟩ := h
    refine ⟨_, (pss_cons (ps_set (i := 3) sc_shape.nd rfl (.inl rfl) (pe_call G_take (hr.mono (by omega)) (by rfl) D_take.g D_take.F.kp D_take.b .nil pass0 (pa_cons (pv 0) (pa_cons pe_int pa_nil))))
      (C8.pss_cut (ps_if (PW.pt (pw_and (pt_cmpR op_eq (pv 3) pe_int (nomark _)) (pw_and1 (pt_val (pe_call G_chance (hr.mono (by omega)) (by rfl) D_chance.g D_chance.F.kp D_chance.b .nil pass0 (pa_cons (pv 0) (pa_cons pe_int pa_nil))))))) (pss_one (ps_set (i := 3) sc_shape.nd rfl (.inl rfl) pe_int)) pss_nil)
      (pss_cons (ps_set (i := 4) sc_shape.nd rfl (.inl rfl) (pe_op op_add pe_int (pe_call G_take (hr.mono (by omega)) (by rfl) D_take.g D_take.F.kp D_take.b .nil pass0 (pa_cons (pv 0) (pa_cons pe_int pa_nil)))))
      (pss_cons (ps_set (i := 5) sc_shape.nd rfl (.inl rfl) (pe_call G_take (hr.mono (by omega)) (by rfl) D_take.g D_take.F.kp D_take.b .nil pass0 (pa_cons (pv 0) (pa_cons (pv 1) pa_nil))))
      (pss_cons (ps_set (i := 6) sc_shape.nd rfl (.inl rfl) (pe_lst pa_nil))
      (pss_cons (ps_for PassesOwn.never rfl (pi_range2 (by rfl) B.range (pa_cons pe_int (pa_cons (pv 1) pa_nil))) (pg_name (i := 7) sc_shape.nd rfl (.inr rfl)) (pss_one (ps_if (PW.pt (pw_or (pt_cmpR op_eq (pv 3) pe_int (nomark _)) (pw_or (pt_cmpR op_eq (pv 3) pe_int (nomark _)) (pw_or1 (PW.pt (pw_and (pt_cmpR op_eq (pv 3) pe_int (nomark _)) (pw_and1 (pt_cmpR op_ne (pv 7) (pv 5) (nomark _))))))))) (pss_one (ps_expr (pe_bm PySem.F.plainAttrs_list PySem.F.slot_list_append PySem.F.type_list_append mt_append (pv 6) (pa_cons (pe_tup (pa_cons (pe_op op_sub (pv 7) pe_int) (pa_cons (pv 7) pa_nil))) pa_nil)))) (pss_one (ps_if (PW.pt (pw_or (pt_cmpR op_eq (pv 3) pe_int (nomark _)) (pw_or1 (PW.pt (pw_and (pt_cmpR op_eq (pv 3) pe_int (nomark _)) (pw_and1 (PW.pt (pw_or (pt_cmpR op_eq (pe_op op_modN (pv 7) pe_int) pe_int (nomark _)) (pw_or1 (pt_cmpR op_eq (pv 7) pe_int (nomark _))))))))))) (pss_one (ps_expr (pe_bm PySem.F.plainAttrs_list PySem.F.slot_list_append PySem.F.type_list_append mt_append (pv 6) (pa_cons (pe_tup (pa_cons pe_int (pa_cons (pv 7) pa_nil))) pa_nil)))) (pss_one (ps_if (pt_cmpR op_eq (pv 3) pe_int (nomark _)) (C8.pss_cut (ps_if (pt_cmpR op_gt (pe_op op_modN (pv 7) (pv 4)) pe_int (nomark _)) (pss_one (ps_expr (pe_bm PySem.F.plainAttrs_list PySem.F.slot_list_append PySem.F.type_list_append mt_append (pv 6) (pa_cons (pe_tup (pa_cons (pe_op op_sub (pv 7) pe_int) (pa_cons (pv 7) pa_nil))) pa_nil)))) pss_nil)
      (pss_one (ps_if (pt_cmpR op_ge (pv 7) (pv 4) (nomark _)) (pss_one (ps_expr (pe_bm PySem.F.plainAttrs_list PySem.F.slot_list_append PySem.F.type_list_append mt_append (pv 6) (pa_cons (pe_tup (pa_cons (pe_op op_sub (pv 7) (pv 4)) (pa_cons (pv 7) pa_nil))) pa_nil)))) pss_nil))) (pss_one (ps_if (pt_cmpR op_eq (pv 3) pe_int (nomark _)) (pss_one (ps_expr (pe_bm PySem.F.plainAttrs_list PySem.F.slot_list_append PySem.F.type_list_append mt_append (pv 6) (pa_cons (pe_tup (pa_cons (pe_call G_take (hr.mono (by omega)) (by rfl) D_take.g D_take.F.kp D_take.b .nil pass0 (pa_cons (pv 0) (pa_cons (pv 7) pa_nil))) (pa_cons (pv 7) pa_nil))) pa_nil)))) (pss_one (ps_if (pt_cmpR op_eq (pv 3) pe_int (nomark _)) (pss_one (ps_set (i := 6) sc_shape.nd rfl (.inl rfl) (pe_op op_catL (pv 6) (pe_lc (own := [("j", 8)]) (g := gName 8) (by rfl) sc_shape.nd (pi_range1 (by rfl) B.range (pa_cons (pv 7) pa_nil)) (blkOk_by (own := [("j", 8)]) (N := ["store", "many", "bound", "kind", "wide", "cut", "pairs", "k", "j"]) (sc := defScope s_shape) (by decide +kernel)) (fun _ _ _ _ _ => pg_name (i := 8) sc_shape.nd rfl (Or.inl rfl)) (fun _ _ _ _ _ => (pts_one (pt_val (pe_call G_chance (hr.mono (by omega)) (by rfl) D_chance.g D_chance.F.kp D_chance.b .nil pass0 (pa_cons (pv 0) (pa_cons pe_int pa_nil)))))) (fun _ _ _ _ _ => (pe_tup (pa_cons (pv 8) (pa_cons (pv 7) pa_nil)))))))) (pss_one (ps_if (pt_cmpR op_eq (pv 3) pe_int (nomark _)) (pss_one (ps_set (i := 6) sc_shape.nd rfl (.inl rfl) (pe_op op_catL (pv 6) (pe_lc (own := [("j", 8)]) (g := gName 8) (tt := tYes) (by rfl) sc_shape.nd (pi_range1 (by rfl) B.range (pa_cons (pv 7) pa_nil)) (blkOk_by (own := [("j", 8)]) (N := ["store", "many", "bound", "kind", "wide", "cut", "pairs", "k", "j"]) (sc := defScope s_shape) (by decide +kernel)) (fun _ _ _ _ _ => pg_name (i := 8) sc_shape.nd rfl (Or.inl rfl)) (fun _ _ _ _ _ => pts_nil) (fun _ _ _ _ _ => (pe_tup (pa_cons (pv 8) (pa_cons (pv 7) pa_nil)))))))) (pss_one (ps_if (pt_cmpR op_eq (pv 3) pe_int (nomark _)) (pss_one (ps_expr (pe_bm PySem.F.plainAttrs_list PySem.F.slot_list_append PySem.F.type_list_append mt_append (pv 6) (pa_cons (pe_tup (pa_cons (pe_op op_sub (pv 7) pe_int) (pa_cons (pv 7) pa_nil))) pa_nil)))) (pss_one (ps_if (PW.pt (pw_and (pt_cmpR op_eq (pv 3) pe_int (nomark _)) (pw_and1 (pt_cmpR op_ne (pv 7) (pv 5) (nomark _))))) (pss_one (ps_expr (pe_bm PySem.F.plainAttrs_list PySem.F.slot_list_append PySem.F.type_list_append mt_append (pv 6) (pa_cons (pe_tup (pa_cons (pe_callB (call_minI rfl) (by rfl) B.min (by decide +kernel) (pa_cons (pe_op op_mul (pe_op op_modN (pv 7) pe_int) (pv 5)) (pa_cons (pv 7) pa_nil))) (pa_cons (pe_callB (call_maxI rfl) (by rfl) B.max (by decide +kernel) (pa_cons (pe_op op_mul (pe_op op_modN (pv 7) pe_int) (pv 5)) (pa_cons (pv 7) pa_nil))) pa_nil))) pa_nil)))) pss_nil)))))))))))))))))
      (C8.pss_cut (ps_if (PW.pt (pw_and (pt_cmpR op_eq (pv 3) pe_int (nomark _)) (pw_and1 (pt_cmpR op_gt (pv 1) pe_int (nomark _))))) (pss_one (ps_expr (pe_bm PySem.F.plainAttrs_list PySem.F.slot_list_append PySem.F.type_list_append mt_append (pv 6) (pa_cons (pe_tup (pa_cons pe_int (pa_cons (pe_op op_sub (pv 1) pe_int) pa_nil))) pa_nil)))) pss_nil)
      (C8.pss_cut (ps_if (pt_cmpR op_gt (pe_callB (call_lenXK (K := K)) (by rfl) B.len PySem.boot_len (pa_cons (pv 6) pa_nil)) (pv 2) (nomark _)) (pss_one (ps_set (i := 6) sc_shape.nd rfl (.inl rfl) (pe_slice (sl_listK (K := K)) (pe_call G_shuffled (hr.mono (by omega)) (by rfl) D_shuffled.g D_shuffled.F.kp D_shuffled.b .nil pass0 (pa_cons (pv 0) (pa_cons (pv 6) pa_nil))) po_none (po_some (pv 2))))) pss_nil)
      (pss_one (ps_ret (pv 6))))))))))), ?_⟩
    walk_at "st"
    refine ⟨a, c, _, rfl, S0, by decide, fun v H1 S1 b1 ⟨kind0, e, _, _⟩ => ?_⟩
    subst e
    walk_at "rt"
    refine r_cut (fun σ H' => StoreAt H' a c ∧ But a H H' ∧ ∃ kind : Int, 0 ≤ kind ∧ kind ≤ 10 ∧ σ = [some (.ref a), some (.int many), some (.int bound), some (.int kind), none, none, none, none, none]) (fun N kk => ?_) ?_
    · walk_at "rt"
      refine ite2 (fun _ => ⟨a, c, _, rfl, S1, by decide, fun v H2 S2 b2 ⟨bb, e⟩ => ⟨bb, e, ?_⟩⟩) (fun _ => kk _ _ ⟨S1, b1, kind0, by omega, by omega, rfl⟩)
      cases bb with
      | true => exact kk _ _ ⟨S2, b1.trans b2, 3, by decide, by decide, rfl⟩
      | false => exact kk _ _ ⟨S2, b1.trans b2, kind0, by omega, by omega, rfl⟩
    rintro σ H2 ⟨S2, b2, kind, _, _, rfl⟩
    walk_at "st"
    refine ⟨a, c, _, rfl, S2, by decide, fun v H3 S3 b3 ⟨wd, e, _, _⟩ => ⟨wd, e, ?_⟩⟩
    walk_at "st"
    refine ⟨a, c, _, rfl, S3, by omega, fun v H4 S4 b4 ⟨cut, e, hcut, _⟩ => ?_⟩
    subst e
    walk_at "st"
    refine ⟨Nat.zero_le _, fun pl npl => ?_⟩
    have b04 := (b2.trans b3).trans b4
    have free : ∀ (H' : Hp) r, But a H H' → StoreAt H' a c → H' r = none → H r = none := fun H' r b S h => by
      cases e : H r with
      | none => rfl
      | some o => have := b r o (S.ne1 h) e; rw [h] at this; cases this
    have R0 : Shp H (L2.upd H4 pl (.lst [])) a c many kind cut pl [] [] 1 0 := ⟨S4.new npl, b04.trans (Keeps.but (Keeps.new npl)), free H4 pl b04 S4 npl, S4.ne1 npl, upd_same, ⟨rfl, fun i p v h _ => (by simp at h)⟩, List.nodup_nil, fun p h => (by cases h), Nat.le_refl _⟩
    generalize L2.upd H4 pl (.lst []) = H5 at R0 ⊢
    walk_at "st"
    refine ⟨by omega, by omega, by omega, by omega, ?_⟩
    refine r_range (fun i σ H' => ∃ pl ps vs, ∃ x7 x8 : Option V, σ = [some (.ref a), some (.int many), some (.int bound), some (.int kind), some (.int (2 + wd)), some (.int cut), some (.ref pl), x7, x8] ∧ Shp H H' a c many kind cut pl ps vs (1 + (i : Int)) (26 * i)) ⟨pl, [], [], _, _, rfl, R0⟩ ?_ ?_
    · rintro i σ H6 hi ⟨pl, ps, vs, x7, x8, rfl, R⟩ N kk
      have hi : (i : Int) < many - 1 := by omega
      have plc : pl ≠ c := S0.ne2 R.new
      have vl : vs.length ≤ 676 := by rw [R.at'.1]; have := R.len; omega
      have none_ : ∀ H', StoreAt H' a c → But a H6 H' → ∀ x7 x8, N [some (.ref a), some (.int many), some (.int bound), some (.int kind), some (.int (2 + wd)), some (.int cut), some (.ref pl), x7, x8] H' := fun H' S' b' x7 x8 => kk _ _ ⟨pl, ps, vs, x7, x8, rfl, R.to S' b' (by omega) (by omega)⟩
      have one : ∀ H' x y, StoreAt H' a c → But a H6 H' → Made kind cut (1 + (i : Int)) x y → y < many → (kind = 10 → (1 + (i : Int)) ≠ cut) → ∀ t, H' t = none → ∀ x7 x8, N [some (.ref a), some (.int many), some (.int bound), some (.int kind), some (.int (2 + wd)), some (.int cut), some (.ref pl), x7, x8] (L2.upd (L2.upd H' t (.tup [.int x, .int y])) pl (.lst (vs ++ [.ref t]))) := fun H' x y S' b' hm hy hk t ht x7 x8 => by
        have R' := (R.to S' b' (Int.le_refl _) (Nat.le_refl _)).add plc ht hcut (by omega) hk hm hy
        exact kk _ _ ⟨pl, _, _, x7, x8, rfl, R'.to R'.S (fun _ _ _ h => h) (by omega) (by omega)⟩
      have leaf : ∀ H' x y x8, StoreAt H' a c → But a H6 H' → Made kind cut (1 + (i : Int)) x y → y < many → (kind = 10 → (1 + (i : Int)) ≠ cut) → tyV K "list" (.ref pl) H' ∧ 2 ≤ sizeLine ∧ ∀ (p : Addr), H' p = none → ∃ xx, L2.upd H' p (.tup [.int x, .int y]) pl = some (.lst xx) ∧ xx.length < sizeLine ∧ N [some (.ref a), some (.int many), some (.int bound), some (.int kind), some (.int (2 + wd)), some (.int cut), some (.ref pl), some (.int (1 + (i : Int))), x8] (L2.upd (L2.upd H' p (.tup [.int x, .int y])) pl (.lst (xx ++ [.ref p]))) := fun H' x y x8 S' b' hm hy hk =>
        ⟨.inl ⟨rfl, _, sq_of (b' _ _ R.pa R.hp)⟩, by rw [PySem.sizeLine_eq]; decide, fun t ht => ⟨vs, (upd_ne (ne_of_none (b' _ _ R.pa R.hp) ht)).trans (b' _ _ R.pa R.hp), size_ok (by omega), one H' x y S' b' hm hy hk t ht _ _⟩⟩
      have ids : But a H6 H6 := fun _ _ _ h => h
      have mk1 : kind ≠ 10 → ∀ x, 0 ≤ x → x < 1 + (i : Int) → (kind = 1 → x + 1 = 1 + (i : Int)) → Made kind cut (1 + (i : Int)) x (1 + (i : Int)) := fun h x h1 h2 h3 => ⟨h1, h2, h3, fun _ => rfl, fun z => absurd z h⟩
      have row1 : ∀ D H8 (N2 : VK) (j : Nat) qs us, D ≠ a → D ≠ c → H6 D = none → StoreAt H8 a c → But a H6 H8 → H8 D = some (.lst us) → PrsAt H8 a qs us → qs.Nodup → qs.length ≤ j → (∀ p ∈ qs, 0 ≤ p.1 ∧ p.1 < (j : Int) ∧ p.2 = 1 + (i : Int)) → j < 26 →
          (∀ y H4 got, H4 D = some (.lst got) → got.length < sizeLine → (StoreAt (L2.upd H4 D (.lst (got ++ [y]))) a c ∧ But a H6 (L2.upd H4 D (.lst (got ++ [y]))) ∧ ∃ qs us, L2.upd H4 D (.lst (got ++ [y])) D = some (.lst us) ∧ PrsAt (L2.upd H4 D (.lst (got ++ [y]))) a qs us ∧ qs.Nodup ∧ qs.length ≤ j + 1 ∧ ∀ p ∈ qs, 0 ≤ p.1 ∧ p.1 < ((j + 1 : Nat) : Int) ∧ p.2 = 1 + (i : Int)) → N2 y H4) →
          2 ≤ sizeLine ∧ ∀ p, H8 p = none → N2 (.ref p) (L2.upd H8 p (.tup [.int (0 + (j : Int)), .int (1 + (i : Int))])) := fun D H8 N2 j qs us Da Dc nD S8 b8 hD hat nd ql hq hj kN => by
        refine ⟨by rw [PySem.sizeLine_eq]; decide, fun t ht => ?_⟩
        have tD : D ≠ t := ne_of_none hD ht
        have ta := S8.ne1 ht
        refine kN _ _ us ((upd_ne tD).trans hD) (size_ok (by rw [hat.1]; omega)) ⟨(S8.new ht).put Da Dc, fun b o hb e => ?_, qs ++ [(0 + (j : Int), 1 + (i : Int))], _, upd_same, PrsAt.put ((hat.put (ys := []) (.inr ht)).snoc ta upd_same) (.inl ((upd_ne tD).trans hD)), List.nodup_append.mpr ⟨nd, by simp, fun p hp q hq' z => ?_⟩, ?_, fun p hp => ?_⟩
        · rw [upd_ne (fun z => by rw [z, nD] at e; cases e)]
          exact Keeps.new ht _ _ (b8 b o hb e)
        · rw [List.mem_singleton.mp hq'] at z
          have := (hq p hp).2.1
          rw [z] at this
          simp only at this
          omega
        · rw [List.length_append]
          exact Nat.succ_le_succ ql
        · rcases List.mem_append.mp hp with hp | hp
          · have := hq p hp
            omega
          · rw [List.mem_singleton.mp hp]
            exact ⟨by simp only; omega, by simp only; omega, rfl⟩
      have row2 : ∀ D H7 qs us, StoreAt H7 a c → But a H6 H7 → H7 D = some (.lst us) → PrsAt H7 a qs us → qs.Nodup → qs.length ≤ 26 → kind ≠ 10 → kind ≠ 1 → (∀ p ∈ qs, 0 ≤ p.1 ∧ p.1 < 1 + (i : Int) ∧ p.2 = 1 + (i : Int)) → ∀ x7 x8 : Option V,
          ∃ xs, H7 pl = some (.lst xs) ∧ ∃ zs, H7 D = some (.lst zs) ∧ xs.length + zs.length ≤ sizeLine ∧ ∀ p, H7 p = none → N [some (.ref a), some (.int many), some (.int bound), some (.int kind), some (.int (2 + wd)), some (.int cut), some (.ref p), x7, x8] (L2.upd H7 p (.lst (xs ++ zs))) := fun D H7 qs us S7 b7 hD hat nd ql h10 h1 hq x7 x8 =>
        ⟨vs, b7 _ _ R.pa R.hp, us, hD, line_of (by rw [hat.1]; omega), fun p np => kk _ _ ⟨p, _, _, x7, x8, rfl, (fun R2 => R2.to R2.S (fun _ _ _ h => h) (by omega) (by omega)) (R.row (by omega) h10 h1 (by omega) S7 b7 np hat hq nd ql)⟩⟩
      have lf : kind ≠ 10 → ∀ H' x x8, StoreAt H' a c → But a H6 H' → 0 ≤ x → x < 1 + (i : Int) → (kind = 1 → x + 1 = 1 + (i : Int)) → _ := fun h H' x x8 S' b' h1 h2 h3 => leaf H' x (1 + (i : Int)) x8 S' b' (mk1 h x h1 h2 h3) (by omega) (fun z => absurd z h)
      walk_at "rt"
      repeat' (first | refine ite2 (fun h => ?_) (fun h => ?_))
      all_goals try (exact lf (by omega) H6 _ _ R.S ids (by omega) (by omega) (by omega))
      all_goals try (exact none_ H6 R.S ids _ _)
      -- kind 4: a drawn earlier one
      all_goals try (refine ⟨.inl ⟨rfl, _, sq_of R.hp⟩, a, c, _, rfl, R.S, by omega, fun v H7 S7 b7 ⟨y, e, y0, y1⟩ => ?_⟩; subst e; exact (lf (by omega) H7 _ _ S7 b7 (by omega) (by omega) (by omega)).2)
      all_goals try (exfalso; omega)
      · -- kind 3: a grid
        have hk : kind = 3 := by assumption
        have w2 : 0 ≤ wd := by assumption
        refine r_cut (fun σ H' => ∃ ps' vs', σ = [some (.ref a), some (.int many), some (.int bound), some (.int kind), some (.int (2 + wd)), some (.int cut), some (.ref pl), some (.int (1 + (i : Int))), x8] ∧ Shp H H' a c many kind cut pl ps' vs' (1 + (i : Int) + 1) (26 * i + 1) ∧ ∀ p ∈ ps', p ∈ ps ∨ p = ((1 + (i : Int)) - 1, 1 + (i : Int))) (fun N2 k2 => ?_) ?_
        · walk_at "rt"
          refine ⟨by omega, ite2 (fun _ => ⟨.inl ⟨rfl, _, sq_of R.hp⟩, by rw [PySem.sizeLine_eq]; decide, fun t ht => ⟨vs, (upd_ne (ne_of_none R.hp ht)).trans R.hp, size_ok (by omega), k2 _ _ ⟨_, _, rfl, R.add plc ht hcut (by omega) (fun z => by omega) (mk1 (by omega) _ (by omega) (by omega) (by omega)) (by omega), fun p hp => ?_⟩⟩⟩) (fun _ => k2 _ _ ⟨ps, vs, rfl, R.to R.S ids (by omega) (by omega), fun p hp => .inl hp⟩)⟩
          rcases List.mem_append.mp hp with hp | hp
          · exact .inl hp
          · exact .inr (List.mem_singleton.mp hp)
        rintro σ H7 ⟨ps', vs', rfl, R', hps⟩
        have vl : vs'.length ≤ 677 := by rw [R'.at'.1]; have := R'.len; omega
        walk_at "rt"
        refine ite2 (fun hge => ⟨.inl ⟨rfl, _, sq_of R'.hp⟩, by rw [PySem.sizeLine_eq]; decide, fun t ht => ⟨vs', (upd_ne (ne_of_none R'.hp ht)).trans R'.hp, size_ok (by omega), ?_⟩⟩) (fun _ => kk _ _ ⟨pl, ps', vs', _, _, rfl, R'.to R'.S (fun _ _ _ h => h) (by omega) (by omega)⟩)
        have R2 := R'.push (l := 1 + (i : Int)) (x := 1 + (i : Int) - (2 + wd)) (y := 1 + (i : Int)) plc ht (fun z => by
          rcases hps _ z with z | z
          · obtain ⟨l, _, h2, _, h4, _⟩ := R.made _ z
            have := h4.2.2.2.1 (by omega)
            simp only at this
            omega
          · have := congrArg Prod.fst z
            simp only at this
            omega) (by omega) (by omega) (fun z => by omega) ⟨by omega, by omega, fun z => by omega, fun _ => rfl, fun z => by omega⟩ (by omega)
        exact kk _ _ ⟨pl, _, _, _, _, rfl, R2.to R2.S (fun _ _ _ h => h) (by omega) (by omega)⟩
      · -- kind 6: some of the earlier ones
        have hk : kind = 6 := by assumption
        refine ⟨by omega, by omega, fun D nD => ?_⟩
        have Da := R.S.ne1 nD
        have Dc := R.S.ne2 nD
        refine r_lcRT (n := (1 + (i : Int)).toNat) (fun j H' => StoreAt H' a c ∧ But a H6 H' ∧ ∃ qs us, H' D = some (.lst us) ∧ PrsAt H' a qs us ∧ qs.Nodup ∧ qs.length ≤ j ∧ ∀ p ∈ qs, 0 ≤ p.1 ∧ p.1 < (j : Int) ∧ p.2 = 1 + (i : Int)) (fun _ => rfl) ⟨R.S.new nD, Keeps.but (Keeps.new nD), [], [], upd_same, ⟨rfl, fun i p v h _ => (by simp at h)⟩, List.nodup_nil, Nat.le_refl _, fun p h => (by cases h)⟩ ?_ ?_
        · rintro j H7 hj ⟨S7, b7, qs, us, hD, hat, nd, ql, hq⟩ N2 M kN kM
          walk_at "rt"
          refine ⟨a, c, _, rfl, S7, by decide, fun v H8 S8 b8 ⟨bb, e⟩ => ⟨bb, e, ?_⟩⟩
          have hD8 := b8 D _ Da hD
          have hat8 := hat.but b8
          cases bb with
          | true =>
            simp only [if_true]
            walk_at "rt"
            exact row1 D H8 _ j qs us Da Dc nD S8 (b7.trans b8) hD8 hat8 nd ql hq (by omega) kN
          | false =>
            simp only [Bool.false_eq_true, if_false]
            exact kM H8 ⟨S8, b7.trans b8, qs, us, hD8, hat8, nd, by omega, fun p hp => by have := hq p hp; omega⟩
        · rintro H7 ⟨S7, b7, qs, us, hD, hat, nd, ql, hq⟩
          exact row2 D H7 qs us S7 b7 hD hat nd (by omega) (by omega) (by omega) (fun p hp => by have := hq p hp; omega) _ _
      · -- kind 7: all earlier ones
        have hk : kind = 7 := by assumption
        refine ⟨by omega, by omega, fun D nD => ?_⟩
        have Da := R.S.ne1 nD
        have Dc := R.S.ne2 nD
        refine r_lcRT (n := (1 + (i : Int)).toNat) (fun j H' => StoreAt H' a c ∧ But a H6 H' ∧ ∃ qs us, H' D = some (.lst us) ∧ PrsAt H' a qs us ∧ qs.Nodup ∧ qs.length ≤ j ∧ ∀ p ∈ qs, 0 ≤ p.1 ∧ p.1 < (j : Int) ∧ p.2 = 1 + (i : Int)) (fun _ => rfl) ⟨R.S.new nD, Keeps.but (Keeps.new nD), [], [], upd_same, ⟨rfl, fun i p v h _ => (by simp at h)⟩, List.nodup_nil, Nat.le_refl _, fun p h => (by cases h)⟩ ?_ ?_
        · rintro j H7 hj ⟨S7, b7, qs, us, hD, hat, nd, ql, hq⟩ N2 M kN kM
          simp only [tYes, if_pos]
          walk_at "rt"
          exact row1 D H7 _ j qs us Da Dc nD S7 b7 hD hat nd ql hq (by omega) kN
        · rintro H7 ⟨S7, b7, qs, us, hD, hat, nd, ql, hq⟩
          exact row2 D H7 qs us S7 b7 hD hat nd (by omega) (by omega) (by omega) (fun p hp => by have := hq p hp; omega) _ _
      · -- kind 10
        have hk : kind = 10 := by omega
        have hc : (1 + (i : Int)) ≠ cut := by omega
        have ef : (1 + (i : Int)).fmod 2 = (1 + (i : Int)) % 2 := Int.fmod_eq_emod_of_nonneg _ (by decide)
        have em : (1 + (i : Int)) % 2 = 0 ∨ (1 + (i : Int)) % 2 = 1 := by omega
        have cm : CMul ((1 + (i : Int)).fmod 2) cut := by
          rw [ef]
          rcases em with e | e <;> rw [e] <;> unfold CMul <;> omega
        obtain ⟨t, ht, e⟩ : ∃ t : Int, (t = 0 ∧ (1 + (i : Int)) % 2 = 0 ∨ t = cut ∧ (1 + (i : Int)) % 2 = 1) ∧ (1 + (i : Int)).fmod 2 * cut = t := by
          rw [ef]
          rcases em with e | e
          · exact ⟨0, .inl ⟨rfl, e⟩, by rw [e, Int.zero_mul]⟩
          · exact ⟨cut, .inr ⟨rfl, e⟩, by rw [e, Int.one_mul]⟩
        refine ⟨.inl ⟨rfl, _, sq_of R.hp⟩, cm, cm, ?_⟩
        rw [e]
        by_cases hlt : 1 + (i : Int) < t
        · rw [if_pos hlt, if_neg (by omega)]
          exact (leaf H6 _ _ x8 R.S ids ⟨by omega, by omega, fun z => by omega, fun z => absurd hk z, fun _ => ⟨t, ht, by omega, .inr ⟨rfl, rfl⟩⟩⟩ (by omega) (fun _ => hc)).2
        · rw [if_neg hlt, if_pos (by omega)]
          exact (leaf H6 _ _ x8 R.S ids ⟨by omega, by omega, fun z => by omega, fun z => absurd hk z, fun _ => ⟨t, ht, by omega, .inl ⟨rfl, rfl⟩⟩⟩ (by omega) (fun _ => hc)).2
    · rintro σ H6 ⟨pl, ps, vs, x7, x8, rfl, R⟩
      have hn : 26 * (many - 1).toNat ≤ 650 := by omega
      have vl : vs.length ≤ 650 := by rw [R.at'.1]; have := R.len; omega
      have plc : pl ≠ c := S0.ne2 R.new
      have prs : PrsL many ps := ⟨R.nd, fun p hp => by
        obtain ⟨l, _, _, _, h4, h5⟩ := R.made p hp
        exact ⟨h4.1, h4.2.1, h5⟩⟩
      refine r_cut (fun σ H' => σ = [some (.ref a), some (.int many), some (.int bound), some (.int kind), some (.int (2 + wd)), some (.int cut), some (.ref pl), x7, x8] ∧ StoreAt H' a c ∧ But a H H' ∧ ∃ ps vs, H' pl = some (.lst vs) ∧ PrsAt H' a ps vs ∧ PrsL many ps ∧ vs.length ≤ 651) (fun N2 k2 => ?_) ?_
      · have no : N2 [some (.ref a), some (.int many), some (.int bound), some (.int kind), some (.int (2 + wd)), some (.int cut), some (.ref pl), x7, x8] H6 := k2 _ _ ⟨rfl, R.S, R.bt, ps, vs, R.hp, R.at', prs, by omega⟩
        walk_at "rt"
        refine ite2 (fun hk => ite2 (fun h2 => ⟨.inl ⟨rfl, _, sq_of R.hp⟩, by rw [PySem.sizeLine_eq]; decide, fun t ht => ?_⟩) (fun _ => no)) (fun _ => no)
        have tp : pl ≠ t := ne_of_none R.hp ht
        refine ⟨vs, (upd_ne tp).trans R.hp, size_ok (by omega), k2 _ _ ⟨rfl, (R.S.new ht).put R.pa plc, fun b o hb e => ?_, ps ++ [(0, many - 1)], _, upd_same, PrsAt.put ((R.at'.put (ys := []) (.inr ht)).snoc (R.S.ne1 ht) upd_same) (.inl ((upd_ne tp).trans R.hp)), ⟨List.nodup_append.mpr ⟨prs.1, by simp, fun x hx y hy z => ?_⟩, fun p hp => ?_⟩, ?_⟩⟩
        · rw [upd_ne (fun z => by rw [z, R.new] at e; cases e)]
          exact Keeps.new ht _ _ (R.bt b o hb e)
        · rw [List.mem_singleton.mp hy] at z
          obtain ⟨l, _, h2, _, h4, h5⟩ := R.made x hx
          have := h4.2.2.1 hk
          rw [z] at this
          simp only at this
          omega
        · rcases List.mem_append.mp hp with hp | hp
          · exact prs.2 p hp
          · rw [List.mem_singleton.mp hp]
            exact ⟨by simp only; omega, by simp only; omega, by simp only; omega⟩
        · rw [List.length_append, List.length_singleton]
          omega
      rintro σ H7 ⟨rfl, S7, b7, ps', vs', hp7, at7, prs7, vl7⟩
      refine r_cut (fun σ H' => StoreAt H' a c ∧ But a H H' ∧ ∃ pl, σ = [some (.ref a), some (.int many), some (.int bound), some (.int kind), some (.int (2 + wd)), some (.int cut), some (.ref pl), x7, x8] ∧ H pl = none ∧ ∃ ps vs, H' pl = some (.lst vs) ∧ PrsAt H' a ps vs ∧ PrsL many ps ∧ (ps.length : Int) ≤ bound) (fun N2 k2 => ?_) ?_
      · walk_at "rt"
        refine ⟨vs', .inl (sq_of hp7), ite2 (fun h => ?_) (fun h => k2 _ _ ⟨S7, b7, pl, rfl, R.new, ps', vs', hp7, at7, prs7, by rw [← at7.1]; omega⟩)⟩
        refine ⟨a, c, pl, vs', rfl, S7, hp7, R.pa, by omega, fun q2 ys H8 S8 b8 n8 h8 pm => ?_⟩
        refine ⟨q2, rfl, ys, sq_of h8, fun r nr => ?_⟩
        obtain ⟨bn, rfl⟩ : ∃ n : Nat, bound = (n : Int) := ⟨bound.toNat, by omega⟩
        obtain ⟨qs, qp, qa⟩ := (at7.but b8).perm pm
        rw [cutV_to]
        refine k2 _ _ ⟨S8.new nr, (b7.trans b8).trans (Keeps.but (Keeps.new nr)), r, rfl, ?_, qs.take bn, _, upd_same, (qa.take bn).put (ys := []) (.inr nr), ⟨(List.take_sublist _ _).nodup (qp.nodup_iff.mpr prs7.1), fun p hp => prs7.2 p (qp.mem_iff.mp (List.mem_of_mem_take hp))⟩, ?_⟩
        · exact free H8 r (b7.trans b8) S8 nr
        · rw [List.length_take]
          omega
      rintro σ H8 ⟨S8, b8, pl2, rfl, n2, qs, us, h8, at8, prs8, hl⟩
      walk_at "rt"
      exact q pl2 qs us H8 S8 b8 n2 h8 at8 prs8 hl
end
end K01
namespace K01
open PySem PySem.Spec PyProof.Rows L2 TL HotExc Tw WX
local macro_rules | `(tactic| walk_at "rd") => `(tactic| simp only [start1, wipe, isR, isBool, isInt, isStr, isLst, isTup, tAsg, gName, gSub, tVar, tC, tOp, tUn, tTest, tIfS, tRet, tRetN, tDrop, tB, tAnd, tOr, tNot, tAndV, tOrV, tNotV, tIf, tCB, tCons, tNil, tNext, tCall, tBM, tTup, tLst, rU, rInW, rNinW, Int.reduceNeg, tG, tG2, sP, tFldC, sFldC, tProp, tMeth, tMake, rOwnC, rLenO, rIsC, rNoT, tAddT, tSAddK, rSAddK, rSInK, rSet0K, rSet0T, rMinS, rMaxS, rSortedQ, rSortedT, rEqD, rNeD, rIxD, dcL_eq, dcZ_eq, lcO_eq, forE_eq, forT_eq, lcS_eq, ItX.rIterN, iOwn, List.append_nil, tDisp, tPairs, tCallS, tCallSD, tCallT, StX.tStar, tCallK, tCallKS, rTupOf, tDrop, rI0, rI, rEq, rNe, scal, forR_eq, forR2_eq, forS_eq, forL_eq, lcT_eq, lcRT_eq, lcS_eq, rLenX, rLenS, rListOf, tRevL, rMulS, rRepL, rCatL, rSumN, rMaxN, tBM0, rPop, tAug, ipI,  tPart, tNoPart, CwR.tReplC, rAllK, rInSg, rNinSg, sgn_inj, rAddS, rInSt, tChain, tM1, tM0, rSplitN, rJoinN, exists_eq, rIntI, rIntB, rIntS, rStrI, rAbs, rOrd, rMin, rMax, rIxL, rIxX, rSetL, rAppend, rIxS, rSlS, rSlL, tSl, List.map_cons, List.map_nil, List.replicate_succ, List.replicate_zero, List.length_cons, List.length_nil, Nat.reduceSub, Nat.reduceAdd, Nat.zero_add, Nat.sub_self, List.getElem?_cons_zero, List.getElem?_cons_succ, List.set_cons_zero, List.set_cons_succ, List.append_nil, List.nil_append, List.cons_append, Option.some.injEq, not_true_eq_false, reduceCtorEq, exists_eq_left', exists_eq_left, exists_eq', exists_and_left, exists_and_right, V.int.injEq, V.str.injEq, V.bl.injEq, V.ref.injEq, List.cons.injEq, and_true, true_and, and_assoc, decide_eq_true_eq, Bool.not_eq_true', decide_eq_false_iff_not, ite_true, ite_false, if_true, if_false, Bool.not_true, Bool.not_false, Bool.false_eq_true, eq_self_iff_true, reduceIte, ne_eq, Int.reduceEq, not_false_eq_true])
local macro_rules | `(tactic| walk_at "rt") => `(tactic| try walk_at "rd")
local macro_rules | `(tactic| walk_at "st") => `(tactic| (walk_at "rt"; refine r_seq ?_; walk_at "rt"))
local macro_rules | `(tactic| walk_at "hp") => `(tactic| first | assumption | exact upd_same | (rw [upd_ne (by assumption)]; walk_at "hp"))
local macro_rules | `(tactic| walk_at "ex1") => `(tactic| ((with_reducible refine Exists.intro ?w (And.intro ?hx ?_)); (case hx => first | exact sq_of (by walk_at "hp") | exact .inl (sq_of (by walk_at "hp")) | exact rfl | (show _ = some (HO.lst _); walk_at "hp"))))
local macro_rules | `(tactic| walk_at "ex") => `(tactic| repeat (first | walk_at "ex1" | walk_at "rd"))
abbrev s_webof : Stmt := topS 66
theorem sc_webof : FnScope ["places", "ties", "near", "place", "pairs", "pair", "tie"] ["places", "ties"] (defScope s_webof) := ⟨rfl, rfl, rfl, by decide +kernel, rfl, by decide +kernel, by decide +kernel⟩
theorem mm_ord (e : Str × Str) : ((if e.2.cps.toList < e.1.cps.toList then e.2 else e.1), (if e.1.cps.toList < e.2.cps.toList then e.2 else e.1)) = ordP e := by
  unfold ordP
  by_cases h : e.1.cps.toList < e.2.cps.toList
  · rw [if_pos h, if_pos h, if_neg (fun g => absurd (List.lt_trans h g) (List.lt_irrefl _))]
  · rw [if_neg h, if_neg h]
    by_cases g : e.2.cps.toList < e.1.cps.toList
    · rw [if_pos g]
    · rw [if_neg g]
      have : e.1 = e.2 := str_ext (List.le_antisymm (List.not_lt.mp g) (List.not_lt.mp h))
      rw [this]
/-- what the law knows of a web: its places, its ties, its table -/
def LwAt (H : Hp) (r a b : Addr) (Ps : List Str) (T : List (Str × Str)) : Prop := (∃ d, H r = some (.tup [.ref a, .ref b, .ref d]) ∧ NearAt H d Ps T) ∧ Args H a b Ps T
def LW (H : Hp) (r : Addr) (Ps : List Str) (T : List (Str × Str)) : Prop := ∃ a b, LwAt H r a b Ps T
theorem LW.keep {H H' : Hp} {r : Addr} {Ps : List Str} {T : List (Str × Str)} (h : LW H r Ps T) (k : Keeps H H') : LW H' r Ps T := let ⟨a, b, ⟨d, h1, h3⟩, h2⟩ := h; ⟨a, b, ⟨d, k _ _ h1, h3.keep k⟩, h2.keep k⟩
/-- the same, its lists and table new since H0 -/
def LWF (H0 H : Hp) (r : Addr) (Ps : List Str) (T : List (Str × Str)) : Prop := ∃ a b d, H r = some (.tup [.ref a, .ref b, .ref d]) ∧ NearAt H d Ps T ∧ Args H a b Ps T ∧ H0 a = none ∧ H0 b = none ∧ H0 d = none ∧ ∀ kvs k l, H d = some (.dK kvs) → valV kvs k = some (.ref l) → H0 l = none
theorem LWF.is {H0 H : Hp} {r : Addr} {Ps : List Str} {T : List (Str × Str)} (h : LWF H0 H r Ps T) : LW H r Ps T := let ⟨a, b, d, h1, h2, h3, _⟩ := h; ⟨a, b, ⟨d, h1, h2⟩, h3⟩
theorem LWF.keep {H0 H H' : Hp} {r : Addr} {Ps : List Str} {T : List (Str × Str)} (h : LWF H0 H r Ps T) (k : Keeps H H') : LWF H0 H' r Ps T := by
  obtain ⟨a, b, d, h1, h2, h3, f1, f2, f3, f4⟩ := h
  obtain ⟨kvs, e, _⟩ := id h2
  exact ⟨a, b, d, k _ _ h1, h2.keep k, h3.keep k, f1, f2, f3, fun kvs' k' l e' hv => f4 kvs' k' l (by rw [k _ _ e] at e'; rw [e]; exact e') hv⟩
theorem LWF.of {H1 H0 H : Hp} {r : Addr} {Ps : List Str} {T : List (Str × Str)} (h : LWF H1 H r Ps T) (f : ∀ p, H1 p = none → H0 p = none) : LWF H0 H r Ps T := by
  obtain ⟨a, b, d, h1, h2, h3, f1, f2, f3, f4⟩ := h
  exact ⟨a, b, d, h1, h2, h3, f _ f1, f _ f2, f _ f3, fun kvs k l e hv => f _ (f4 kvs k l e hv)⟩
theorem LWF.updL {H0 H : Hp} {r p : Addr} {Ps : List Str} {T : List (Str × Str)} {o0 o : HO} {zs : List V} (h : LWF H0 H r Ps T) (hp0 : H0 p = some o0) (hp : H p = some (.lst zs)) : LWF H0 (L2.upd H p o) r Ps T := by
  obtain ⟨a, b, d, h1, ⟨kvs, e, hat, hk⟩, ⟨ha, vs, hb, hv⟩, f1, f2, f3, f4⟩ := h
  have ne : ∀ {a : Addr}, H0 a = none → a ≠ p := fun ha e => by rw [e, hp0] at ha; cases ha
  exact ⟨a, b, d, (upd_ne (fun z => by rw [z, hp] at h1; cases h1)).trans h1, ⟨kvs, (upd_ne (ne f3)).trans e, fun y hy => (by
    obtain ⟨l, hv, hl⟩ := hat y hy
    exact ⟨l, hv, (upd_ne (ne (f4 kvs _ l e hv))).trans hl⟩), hk⟩, ⟨(upd_ne (ne f1)).trans ha, vs, (upd_ne (ne f2)).trans hb, hv.keep fun t xs g => (upd_ne (fun z => by rw [z, hp] at g; cases g)).trans g⟩, f1, f2, f3, fun kvs' k' l e' hv => f4 kvs' k' l ((upd_ne (ne f3)).symm.trans e') hv⟩
def spWebOf : Sp := fun vs H Q _ => ∃ (p t : Addr) (Ps : List Str) (E : List (Str × Str)), vs = [.ref p, .ref t] ∧ Args H p t Ps E ∧ Ps.length ≤ 20 ∧ E.length ≤ 60 ∧ (∀ e ∈ E, e.1 ∈ Ps ∧ e.2 ∈ Ps) ∧ ∀ r H', Keeps H H' → H r = none → LWF H H' r (sortS Ps) (sortP (E.map ordP)) → Q (.ref r) H'
section
variable {P : Program} {w : World} {K : PySem.W.Frag} {mg : Str → Option Value} {base : Heap}
theorem ok_webof {f : Addr} {fd : FuncData} (B : Bi mg) (B_sorted : mg "sorted" = none) (D : Dn K mg "_law_web_of" s_webof ["places", "ties"] f fd) : FnOk P w K mg base CX0 2 f fd ["places", "ties"] spWebOf := by
  refine D.F.ok sc_webof (fun vs H Q E h => ?_) (fun cdv A outer s H vs Q E hr h => ?_)
  · obtain ⟨p, t, Ps, T, rfl, _⟩ := h
    rfl
  · obtain ⟨p, t, Ps, E, rfl, ⟨hp, vs, ht, hpt⟩, h20, h60, hin, q⟩ := h
    refine ⟨_, (pss_cons (ps_set (i := 2) sc_webof.nd rfl (.inl rfl) pe_dnewK)
      (pss_cons (ps_for PassesOwn.never rfl (pi_listK (K := K) (pe_callB (call_sortedTK (K := K) (hu64 hr)) (by rfl) B_sorted (by decide +kernel) (pa_cons (pv 0) pa_nil))) (pg_name (i := 3) sc_webof.nd rfl (.inl rfl)) (pss_one (ps_pS (hu_of hr) (pv 2) (pv 3) (pe_lst pa_nil) rfl)))
      (pss_cons (ps_set (i := 4) sc_webof.nd rfl (.inl rfl) (pe_callB (cr_sortedPK (K := K) (hu64 hr)) (by rfl) B_sorted (by decide +kernel) (pa_cons (pe_lc (own := [("tie", 6)]) (g := gName 6) (tt := tYes) (by rfl) sc_webof.nd (pi_listK (K := K) (pv 1)) (blkOk_by (own := [("tie", 6)]) (N := ["places", "ties", "near", "place", "pairs", "pair", "tie"]) (sc := defScope s_webof) (by decide +kernel)) (fun _ _ _ _ _ => pg_name (i := 6) sc_webof.nd rfl (Or.inl rfl)) (fun _ _ _ _ _ => pts_nil) (fun _ _ _ _ _ => (pe_tup (pa_cons (pe_callB (call_minS rfl) (by rfl) B.min (by decide +kernel) (pa_cons (pe_ix (ix_sxK (K := K)) (pv 6) pe_int (fun _ _ => rfl)) (pa_cons (pe_ix (ix_sxK (K := K)) (pv 6) pe_int (fun _ _ => rfl)) pa_nil))) (pa_cons (pe_callB (call_maxS rfl) (by rfl) B.max (by decide +kernel) (pa_cons (pe_ix (ix_sxK (K := K)) (pv 6) pe_int (fun _ _ => rfl)) (pa_cons (pe_ix (ix_sxK (K := K)) (pv 6) pe_int (fun _ _ => rfl)) pa_nil))) pa_nil))))) pa_nil)))
      (pss_cons (ps_for PassesOwn.never rfl (pi_listK (K := K) (pv 4)) (pg_name (i := 5) sc_webof.nd rfl (.inl rfl)) (pss_cons (ps_expr (pe_bm PySem.F.plainAttrs_list PySem.F.slot_list_append PySem.F.type_list_append mt_append (pe_gS (hu_of hr) (pv 2) (pe_ix (ix_sxK (K := K)) (pv 5) pe_int (fun _ _ => rfl)) (fun _ _ => rfl)) (pa_cons (pe_ix (ix_sxK (K := K)) (pv 5) pe_int (fun _ _ => rfl)) pa_nil)))
      (pss_one (ps_expr (pe_bm PySem.F.plainAttrs_list PySem.F.slot_list_append PySem.F.type_list_append mt_append (pe_gS (hu_of hr) (pv 2) (pe_ix (ix_sxK (K := K)) (pv 5) pe_int (fun _ _ => rfl)) (fun _ _ => rfl)) (pa_cons (pe_ix (ix_sxK (K := K)) (pv 5) pe_int (fun _ _ => rfl)) pa_nil))))))
      (pss_cons (ps_for PassesOwn.never rfl (pi_listK (K := K) (pe_callB (call_sortedTK (K := K) (hu64 hr)) (by rfl) B_sorted (by decide +kernel) (pa_cons (pv 0) pa_nil))) (pg_name (i := 3) sc_webof.nd rfl (.inl rfl)) (pss_one (ps_pS (hu_of hr) (pv 2) (pv 3) (pe_callB (call_sortedTK (K := K) (hu64 hr)) (by rfl) B_sorted (by decide +kernel) (pa_cons (pe_gS (hu_of hr) (pv 2) (pv 3) (fun _ _ => rfl)) pa_nil)) rfl)))
      (pss_one (ps_ret (pe_tup (pa_cons (pe_callB (call_sortedTK (K := K) (hu64 hr)) (by rfl) B_sorted (by decide +kernel) (pa_cons (pv 0) pa_nil)) (pa_cons (pv 4) (pa_cons (pv 2) pa_nil))))))))))), ?_⟩
    walk_at "st"
    intro nt nnt
    have k0 : Keeps H (L2.upd H nt (.dK [])) := Keeps.new nnt
    have hn0 : L2.upd H nt (.dK []) nt = some (.dK []) := upd_same
    generalize L2.upd H nt (.dK []) = H0 at *
    walk_at "st"
    refine ⟨Ps, sq_of (k0 _ _ hp), fun s1 ns1 => ⟨⟨_, sq_of upd_same⟩, ?_⟩⟩
    have k1 : Keeps H (L2.upd H0 s1 (.lst ((sortS Ps).map V.str))) := k0.trans (Keeps.new ns1)
    have hs1 : L2.upd H0 s1 (.lst ((sortS Ps).map V.str)) s1 = some (.lst ((sortS Ps).map V.str)) := upd_same
    have hn1 : L2.upd H0 s1 (.lst ((sortS Ps).map V.str)) nt = some (.dK []) := (upd_ne (ne_of_none hn0 ns1)).trans hn0
    have spl := (sortS_pm Ps).length_eq
    have ns1' : H s1 = none := k0.free ns1
    generalize L2.upd H0 s1 (.lst ((sortS Ps).map V.str)) = H1 at *
    refine r_list ((sortS Ps).map V.str) (fun i σ H' => (∃ b c d e, σ = [some (.ref p), some (.ref t), some (.ref nt), b, c, d, e]) ∧ Keeps H H' ∧ H' s1 = some (.lst ((sortS Ps).map V.str)) ∧ ∃ kvs, H' nt = some (.dK kvs) ∧ kvs.length ≤ i ∧ NearE H H' kvs ((sortS Ps).take i) (nears [])) ⟨⟨_, _, _, _, rfl⟩, k1, hs1, [], hn1, Nat.le_refl _, NearE.nil⟩ (fun i σ H' _ h => sq_of h.2.2.1) ?_ ?_
    · rintro i v σ H' hx ⟨⟨b, c, d, e, rfl⟩, k, hs', kvs, hn, hl, hw⟩ N kk
      obtain ⟨z, hz, rfl⟩ := get_map hx
      have hi := lt_of_get hz
      walk_at "rt"
      refine ⟨Nat.zero_le _, fun l nl => ⟨kvs, (upd_ne (ne_of_none hn nl)).trans hn, size_ok (by omega), kk _ _ ⟨⟨_, _, _, _, rfl⟩, (k.put (k.free nl)).put nnt, ?_, _, upd_same, ?_, ?_⟩⟩⟩
      · rw [upd_ne (fun z => by rw [z, hn] at hs'; cases hs'), upd_ne (ne_of_none hs' nl)]
        exact hs'
      · have := length_putK kvs (Sum.inr z) (.ref l)
        omega
      · rw [take_snoc hz]
        refine hw.put nl (k.free nl) (fun p xs h => ?_) (fun _ _ => rfl) ((upd_ne (fun z => by rw [← z] at hn; rw [hn] at nl; cases nl)).trans upd_same)
        rw [upd_ne (fun z => by rw [z, hn] at h; cases h), upd_ne (ne_of_none h nl)]
        exact h
    · rintro σ H2 ⟨⟨b, c, d, e, rfl⟩, k2, hs2, kvs, hn, hl, hw⟩
      rw [List.length_map, List.take_length] at hw
      rw [List.length_map] at hl
      walk_at "st"
      refine ⟨⟨_, sq_of (k2 _ _ ht)⟩, fun Dd nD => ?_⟩
      refine r_lcTL vs (fun i H' => Keeps H2 H' ∧ ∃ us, H' Dd = some (.lst us) ∧ PT H' ((E.take i).map ordP) us) (fun _ => rfl) ⟨Keeps.new nD, [], upd_same, PT.nil⟩ (fun i H' _ h => sq_of (h.1 _ _ (k2 _ _ ht))) ?_ ?_
      · rintro i v H' hx ⟨k, us, hD, hus⟩ N kN
        have hi : i < E.length := by have := lt_of_get hx; have := hpt.1; omega
        have he := List.getElem?_eq_getElem hi
        generalize E[i] = e0 at he
        obtain ⟨u, rfl, hu⟩ := hpt.2 i _ v he hx
        have hu' := (k2.trans k) _ _ hu
        have tt : ∀ H'' : Hp, H'' u = some (.tup [.str e0.1, .str e0.2]) → SqL K H'' u [.str e0.1, .str e0.2] ∨ SqT K H'' u [.str e0.1, .str e0.2] := fun H'' h => .inr (tup_at h)
        walk_at "rt"
        refine ⟨_, tt _ hu', _, rfl, _, tt _ hu', _, rfl, _, rfl, _, rfl, _, tt _ hu', _, rfl, _, tt _ hu', _, rfl, _, rfl, _, rfl, by rw [PySem.sizeLine_eq]; decide, fun r nr => ?_⟩
        have rD : Dd ≠ r := ne_of_none hD nr
        refine kN _ _ us ((upd_ne rD).trans hD) (size_ok (by rw [hus.1, List.length_map, List.length_take]; omega)) ⟨(k.put (k.free nr)).put nD, _, upd_same, ?_⟩
        rw [take_snoc he, List.map_append]
        refine PT.snoc ((hus.keeps (Keeps.new nr)).upd ((upd_ne rD).trans hD) (fun xs h => by cases h)) ?_
        rw [upd_ne rD.symm, upd_same, ← mm_ord e0]
      rintro H3 ⟨k3, us, hD, hus⟩
      have el : E.take vs.length = E := List.take_of_length_le (by rw [hpt.1]; exact Nat.le_refl _)
      rw [el] at hus
      refine ⟨_, _, sq_of hD, hus, fun ys pr hys npr => ?_⟩
      have k23 := k3.trans (Keeps.new (x := .lst ys) npr)
      have k4 := k2.trans k23
      have hpr : L2.upd H3 pr (.lst ys) pr = some (.lst ys) := upd_same
      have hys := hys.keeps (Keeps.new (x := .lst ys) npr)
      have hne : ∀ k l, valV kvs k = some (.ref l) → l ≠ pr := fun k l hv z => by
        obtain ⟨x, hx, e⟩ := hw.key _ _ hv
        obtain ⟨l', h1, _, h⟩ := hw.at' x hx
        rw [e, h1] at hv
        cases hv
        have := k3 _ _ h
        rw [z, npr] at this
        cases this
      have hn4 := k23 _ _ hn
      have hw4 := hw.keep fun l xs _ h => k23 _ _ h
      have npr0 := k2.free (k3.free npr)
      generalize L2.upd H3 pr (.lst ys) = H4 at *
      have hT : (sortP (E.map ordP)).length = E.length := by rw [(sortP_pm _).length_eq, List.length_map]
      have hin' : ∀ e ∈ sortP (E.map ordP), e.1 ∈ sortS Ps ∧ e.2 ∈ sortS Ps := fun e he => by
        obtain ⟨e0, h0, rfl⟩ := List.mem_map.mp ((sortP_pm _).mem_iff.mp he)
        have := ordP_in (hin e0 h0)
        exact ⟨(sortS_pm Ps).mem_iff.mpr this.1, (sortS_pm Ps).mem_iff.mpr this.2⟩
      generalize hTT : sortP (E.map ordP) = T at *
      walk_at "st"
      refine ⟨⟨_, sq_of hpr⟩, ?_⟩
      refine r_list ys (fun i σ H' => (∃ b c e, σ = [some (.ref p), some (.ref t), some (.ref nt), b, some (.ref pr), c, e]) ∧ Keeps H H' ∧ H' pr = some (.lst ys) ∧ PT H' T ys ∧ H' nt = some (.dK kvs) ∧ NearE H H' kvs (sortS Ps) (nears (T.take i))) ⟨⟨_, _, _, rfl⟩, k4, hpr, hys, hn4, hw4⟩ (fun i σ H' _ h => sq_of h.2.2.1) ?_ ?_
      · rintro i v σ H' hx ⟨⟨b, c, d, rfl⟩, k, hpr', hpt', hn', hw'⟩ N kk
        have hi : i < T.length := by have := lt_of_get hx; have := hpt'.1; omega
        have he := List.getElem?_eq_getElem hi
        have hm := hin' _ (List.getElem_mem hi)
        generalize T[i] = e0 at he hm
        obtain ⟨u, rfl, hu⟩ := hpt'.2 i _ v he hx
        have len : ∀ x, (nears (T.take i) x).length ≤ 120 := fun x => by
          have := nears_len (T.take i) x
          rw [List.length_take] at this
          omega
        obtain ⟨l1, hv1, a1, b1⟩ := hw'.at' _ hm.1
        have tt : ∀ H'' : Hp, H'' u = some (.tup [.str e0.1, .str e0.2]) → SqL K H'' u [.str e0.1, .str e0.2] ∨ SqT K H'' u [.str e0.1, .str e0.2] := fun H'' h => .inr (tup_at h)
        have ul : u ≠ l1 := fun z => by rw [z, b1] at hu; cases hu
        have hu2 : L2.upd H' l1 (.lst ((nears (T.take i) e0.1).map V.str ++ [.str e0.2])) u = some (.tup [.str e0.1, .str e0.2]) := (upd_ne ul).trans hu
        walk_at "st"
        refine ⟨_, tt _ hu, _, rfl, _, rfl, kvs, hn', _, hv1, .inl ⟨rfl, _, sq_of b1⟩, _, tt _ hu, _, rfl, l1, rfl, _, b1, size_ok (by rw [List.length_map]; have := len e0.1; omega), ?_⟩
        have hn2 : L2.upd H' l1 (.lst ((nears (T.take i) e0.1).map V.str ++ [.str e0.2])) nt = some (.dK kvs) := (upd_ne (fun z => by rw [z, b1] at hn'; cases hn')).trans hn'
        have kp2 := k.put (p := l1) (x := .lst ((nears (T.take i) e0.1).map V.str ++ [.str e0.2])) a1
        have hw2 := hw'.app (z := e0.2) hv1 b1
        have hp2 : L2.upd H' l1 (.lst ((nears (T.take i) e0.1).map V.str ++ [.str e0.2])) pr = some (.lst ys) := (upd_ne (hne _ _ hv1).symm).trans hpr'
        have ht2 := hpt'.upd (u := .lst ((nears (T.take i) e0.1).map V.str ++ [.str e0.2])) b1 (fun xs h => by cases h)
        generalize L2.upd H' l1 (.lst ((nears (T.take i) e0.1).map V.str ++ [.str e0.2])) = H2' at hn2 kp2 hw2 hp2 ht2 hu2 ⊢
        obtain ⟨l2, hv2, a2, b2⟩ := hw2.at' _ hm.2
        refine ⟨_, tt _ hu2, _, rfl, _, rfl, kvs, hn2, _, hv2, .inl ⟨rfl, _, sq_of b2⟩, _, tt _ hu2, _, rfl, l2, rfl, _, b2, size_ok (by
          rw [List.length_map, List.length_append]
          have := len e0.2
          have : (if e0.1 = e0.2 then [e0.2] else []).length ≤ 1 := by split <;> simp
          omega), ?_⟩
        exact kk _ _ ⟨⟨_, _, _, rfl⟩, kp2.put a2, (upd_ne (hne _ _ hv2).symm).trans hp2, ht2.upd b2 (fun xs h => by cases h), (upd_ne (fun z => by rw [z, b2] at hn2; cases hn2)).trans hn2, (hw2.app hv2 b2).ext fun x _ => by rw [take_snoc he, nears_snoc]⟩
      · rintro σ H5 ⟨⟨b, c, d, rfl⟩, k5, hpr5, hpt5, hn5, hw5⟩
        walk_at "st"
        refine ⟨Ps, sq_of (k5 _ _ hp), fun s3 ns3 => ⟨⟨_, sq_of upd_same⟩, ?_⟩⟩
        have k56 : Keeps H5 (L2.upd H5 s3 (.lst ((sortS Ps).map V.str))) := Keeps.new ns3
        have hs3 : L2.upd H5 s3 (.lst ((sortS Ps).map V.str)) s3 = some (.lst ((sortS Ps).map V.str)) := upd_same
        have ns3' := k5.free ns3
        generalize L2.upd H5 s3 (.lst ((sortS Ps).map V.str)) = H6 at *
        refine r_list ((sortS Ps).map V.str) (fun i σ H' => (∃ b c e, σ = [some (.ref p), some (.ref t), some (.ref nt), b, some (.ref pr), c, e]) ∧ Keeps H H' ∧ H' s3 = some (.lst ((sortS Ps).map V.str)) ∧ H' pr = some (.lst ys) ∧ PT H' T ys ∧ ∃ kvs, H' nt = some (.dK kvs) ∧ kvs.length ≤ 20 + i ∧ NearE H H' kvs (sortS Ps) (fun x => if x ∈ (sortS Ps).take i then sortS (nears T x) else nears T x)) ⟨⟨_, _, _, rfl⟩, k5.trans k56, hs3, k56 _ _ hpr5, hpt5.keeps k56, kvs, k56 _ _ hn5, by omega, (hw5.keep (fun l xs _ h => k56 _ _ h)).ext (fun x _ => by rw [List.take_of_length_le (by rw [hpt5.1]; exact Nat.le_refl _)]; rfl)⟩ (fun i σ H' _ h => sq_of h.2.2.1) ?_ ?_
        · rintro i v σ H' hx ⟨⟨b, c, d, rfl⟩, k, hs', hpr', hpt', kvs, hn', hl', hw'⟩ N kk
          obtain ⟨z, hz, rfl⟩ := get_map hx
          have hi := lt_of_get hz
          have zP : z ∈ sortS Ps := List.mem_of_getElem? hz
          obtain ⟨l, hv0, l1, l2⟩ := hw'.at' z zP
          obtain ⟨ws, ews⟩ : ∃ ws, ws = (if z ∈ (sortS Ps).take i then sortS (nears T z) else nears T z) := ⟨_, rfl⟩
          have es : sortS ws = sortS (nears T z) := by
            rw [ews]
            split
            · exact sortS_of (List.Perm.refl _)
            · rfl
          rw [← ews] at l2
          walk_at "rt"
          refine ⟨kvs, hn', _, hv0, l, rfl, ws, sq_of l2, fun p2 np2 => ⟨kvs, (upd_ne (ne_of_none hn' np2)).trans hn', size_ok (by omega), ?_⟩⟩
          have kn : Keeps H' (L2.upd H' p2 (.lst ((sortS ws).map V.str))) := Keeps.new np2
          have hn2 := kn _ _ hn'
          refine kk _ _ ⟨⟨_, _, _, rfl⟩, (k.put (k.free np2)).put nnt, ?_, ?_, (hpt'.keeps kn).upd hn2 (fun xs h => by cases h), _, upd_same, ?_, ?_⟩
          · exact (upd_ne (fun z => by rw [z, hn'] at hs'; cases hs')).trans (kn _ _ hs')
          · exact (upd_ne (fun z => by rw [z, hn'] at hpr'; cases hpr')).trans (kn _ _ hpr')
          · have := length_putK kvs (Sum.inr z) (.ref p2)
            omega
          · refine ((hw'.put np2 (k.free np2) (fun p xs h => ?_) (g := fun x => if x ∈ (sortS Ps).take (i + 1) then sortS (nears T x) else nears T x) (fun y hy => ?_) ?_).set fun x => ⟨fun hx => (List.mem_append.mp hx).elim (fun h => h) (fun h => (List.mem_singleton.mp h) ▸ zP), fun hx => List.mem_append_left _ hx⟩)
            · exact (upd_ne (fun z => by rw [z, hn'] at h; cases h)).trans (kn _ _ h)
            · rw [take_snoc hz]
              simp only [List.mem_append, List.mem_singleton, hy, or_false]
            · rw [take_snoc hz, if_pos (List.mem_append_right _ List.mem_cons_self), ← es]
              exact (upd_ne (fun z => by rw [← z] at hn'; rw [hn'] at np2; cases np2)).trans upd_same
        · rintro σ H7 ⟨⟨b, c, d, rfl⟩, k7, hs7, hpr7, hpt7, kvs, hn7, _, hw7⟩
          rw [List.length_map, List.take_length] at hw7
          walk_at "rt"
          refine ⟨Ps, sq_of (k7 _ _ hp), fun a na => ⟨by rw [PySem.sizeLine_eq]; decide, fun r nr => ?_⟩⟩
          have ka : Keeps H7 (L2.upd H7 a (.lst ((sortS Ps).map V.str))) := Keeps.new na
          have kr := Keeps.new (x := .tup [.ref a, .ref pr, .ref nt]) nr
          have kar := ka.trans kr
          refine q r _ (k7.trans kar) (k7.free (ka.free nr)) ⟨a, pr, nt, upd_same, NearAt.keep ⟨kvs, hn7, fun x hx => by
            obtain ⟨l, h1, _, h3⟩ := hw7.at' x hx
            rw [if_pos hx] at h3
            exact ⟨l, h1, h3⟩, hw7.key⟩ kar, ⟨kr _ _ upd_same, ys, kar _ _ hpr7, hpt7.keeps kar⟩, k7.free na, npr0, nnt, fun kvs' k' l e hv => ?_⟩
          rw [kar _ _ hn7] at e
          cases e
          obtain ⟨x, hx, rfl⟩ := hw7.key k' _ hv
          obtain ⟨l', g1, g2, _⟩ := hw7.at' x hx
          rw [g1] at hv
          cases hv
          exact g2
end
end K01
namespace K01
open PySem PySem.Spec PyProof.Rows L2 TL HotExc Tw WX
local macro_rules | `(tactic| walk_at "rd") => `(tactic| simp only [start1, wipe, isR, isBool, isInt, isStr, isLst, isTup, tAsg, gName, gSub, tVar, tC, tOp, tUn, tTest, tIfS, tRet, tRetN, tDrop, tB, tAnd, tOr, tNot, tAndV, tOrV, tNotV, tIf, tCB, tCons, tNil, tNext, tCall, tBM, tTup, tLst, rU, rInW, rNinW, Int.reduceNeg, tG, tG2, sP, tFldC, sFldC, tProp, tMeth, tMake, rOwnC, rLenO, rIsC, rNoT, tAddT, tSAddK, rSAddK, rSInK, rSet0K, rSet0T, rMinS, rMaxS, rSortedQ, rSortedT, rEqD, rNeD, rIxD, dcL_eq, dcZ_eq, lcO_eq, forE_eq, forT_eq, lcS_eq, ItX.rIterN, iOwn, List.append_nil, tDisp, tPairs, tCallS, tCallSD, tCallT, StX.tStar, tCallK, tCallKS, rTupOf, tDrop, rI0, rI, rEq, rNe, scal, forR_eq, forR2_eq, forS_eq, forL_eq, lcT_eq, lcRT_eq, lcS_eq, rLenX, rLenS, rListOf, tRevL, rMulS, rRepL, rCatL, rSumN, rMaxN, tBM0, rPop, tAug, ipI,  tPart, tNoPart, CwR.tReplC, rAllK, rInSg, rNinSg, sgn_inj, rAddS, rInSt, tChain, tM1, tM0, rSplitN, rJoinN, exists_eq, rIntI, rIntB, rIntS, rStrI, rAbs, rOrd, rMin, rMax, rIxL, rIxX, rSetL, rAppend, rIxS, rSlS, rSlL, tSl, List.map_cons, List.map_nil, List.replicate_succ, List.replicate_zero, List.length_cons, List.length_nil, Nat.reduceSub, Nat.reduceAdd, Nat.zero_add, Nat.sub_self, List.getElem?_cons_zero, List.getElem?_cons_succ, List.set_cons_zero, List.set_cons_succ, List.append_nil, List.nil_append, List.cons_append, Option.some.injEq, not_true_eq_false, reduceCtorEq, exists_eq_left', exists_eq_left, exists_eq', exists_and_left, exists_and_right, V.int.injEq, V.str.injEq, V.bl.injEq, V.ref.injEq, List.cons.injEq, and_true, true_and, and_assoc, decide_eq_true_eq, Bool.not_eq_true', decide_eq_false_iff_not, ite_true, ite_false, if_true, if_false, Bool.not_true, Bool.not_false, Bool.false_eq_true, eq_self_iff_true, reduceIte, ne_eq, Int.reduceEq, not_false_eq_true])
local macro_rules | `(tactic| walk_at "rt") => `(tactic| try walk_at "rd")
local macro_rules | `(tactic| walk_at "st") => `(tactic| (walk_at "rt"; refine r_seq ?_; walk_at "rt"))
local macro_rules | `(tactic| walk_at "hp") => `(tactic| first | assumption | exact upd_same | (rw [upd_ne (by assumption)]; walk_at "hp"))
local macro_rules | `(tactic| walk_at "ex1") => `(tactic| ((with_reducible refine Exists.intro ?w (And.intro ?hx ?_)); (case hx => first | exact sq_of (by walk_at "hp") | exact .inl (sq_of (by walk_at "hp")) | exact rfl | (show _ = some (HO.lst _); walk_at "hp"))))
local macro_rules | `(tactic| walk_at "ex") => `(tactic| repeat (first | walk_at "ex1" | walk_at "rd"))
abbrev s_websized : Stmt := topS 68
theorem sc_websized : FnScope ["store", "many", "bound", "taken", "names", "ties", "pair"] ["store", "many", "bound", "taken"] (defScope s_websized) := ⟨rfl, rfl, rfl, by decide +kernel, rfl, by decide +kernel, by decide +kernel⟩

theorem StoreAt.nS {H : Hp} {a c p : Addr} {ws : List Str} (S : StoreAt H a c) (h : H p = some (.lst (ws.map V.str))) : p ≠ a := fun z => by
  obtain ⟨⟨cells, pos, val, turn, seed, e, _⟩, _⟩ := S
  rw [z, e] at h
  have h := HO.lst.inj (Option.some.inj h)
  cases ws with
  | nil => cases h
  | cons x ws =>
    rw [List.map_cons] at h
    have := (List.cons.inj h).1
    cases this
theorem StoreAt.nP {H : Hp} {a c t : Addr} {E : List (Str × Str)} {vs : List V} (S : StoreAt H a c) (h : H t = some (.lst vs)) (g : PT H E vs) : t ≠ a := fun z => by
  obtain ⟨⟨cells, pos, val, turn, seed, e, _⟩, _⟩ := S
  rw [z, e] at h
  have h := HO.lst.inj (Option.some.inj h)
  subst h
  have h1 : 1 < E.length := by rw [← g.1]; simp
  obtain ⟨t, e, _⟩ := g.2 1 _ _ (List.getElem?_eq_getElem h1) rfl
  cases e
theorem StoreAt.nT {H : Hp} {a c t : Addr} {xs : List V} (S : StoreAt H a c) (h : H t = some (.tup xs)) : t ≠ a := fun z => by
  obtain ⟨⟨cells, pos, val, turn, seed, e, _⟩, _⟩ := S
  rw [z, e] at h
  cases h
theorem _root_.WX.PT.but {H H' : Hp} {a c : Addr} {E : List (Str × Str)} {vs : List V} (h : PT H E vs) (S : StoreAt H a c) (b : But a H H') : PT H' E vs := h.keep fun t xs e => b _ _ (S.nT e) e
theorem Args.but {H H' : Hp} {a c p t : Addr} {Ps : List Str} {E : List (Str × Str)} (h : Args H p t Ps E) (S : StoreAt H a c) (b : But a H H') : Args H' p t Ps E := by
  obtain ⟨h1, vs, h2, h3⟩ := h
  exact ⟨b _ _ (S.nS h1) h1, vs, b _ _ (S.nP h2 h3) h2, h3.but S b⟩
theorem StoreAt.nK {H : Hp} {a c p : Addr} {kvs : List (Key × V)} (S : StoreAt H a c) (h : H p = some (.dK kvs)) : p ≠ a := fun z => by
  obtain ⟨⟨cells, pos, val, turn, seed, e, _⟩, _⟩ := S
  rw [z, e] at h
  cases h
theorem LW.but {H H' : Hp} {a c r : Addr} {Ps : List Str} {T : List (Str × Str)} (h : LW H r Ps T) (S : StoreAt H a c) (b : But a H H') : LW H' r Ps T := by
  obtain ⟨x, y, ⟨v, h1, h3⟩, h2⟩ := h
  exact ⟨x, y, ⟨v, b _ _ (S.nT h1) h1, h3.but b (fun p xs h => S.nS h) (fun p kvs h => S.nK h)⟩, h2.but S b⟩
theorem LWF.but {H0 H H' : Hp} {a c r : Addr} {Ps : List Str} {T : List (Str × Str)} (h : LWF H0 H r Ps T) (S : StoreAt H a c) (b : But a H H') : LWF H0 H' r Ps T := by
  obtain ⟨x, y, d, h1, h2, h3, f1, f2, f3, f4⟩ := h
  obtain ⟨kvs, e, _⟩ := id h2
  exact ⟨x, y, d, b _ _ (S.nT h1) h1, h2.but b (fun p xs h => S.nS h) (fun p kvs h => S.nK h), h3.but S b, f1, f2, f3, fun kvs' k' l e' hv => f4 kvs' k' l (by rw [b _ _ (S.nK e) e] at e'; rw [e]; exact e') hv⟩
theorem _root_.WX.PT.cons {H : Hp} {ps : List (Str × Str)} {v : V} {vs : List V} (h : PT H ps (v :: vs)) : ∃ p qs, ps = p :: qs ∧ (∃ t, v = .ref t ∧ H t = some (.tup [.str p.1, .str p.2])) ∧ PT H qs vs := by
  cases ps with
  | nil => exact absurd h.1 (by simp)
  | cons p qs => exact ⟨p, qs, rfl, h.2 0 p v rfl rfl, by have := h.1; simp at this; exact this, fun i x y e1 e2 => h.2 (i + 1) x y e1 e2⟩
theorem _root_.WX.PT.mk {H : Hp} {p : Str × Str} {ps : List (Str × Str)} {v : V} {vs : List V} (h1 : ∃ t, v = .ref t ∧ H t = some (.tup [.str p.1, .str p.2])) (h : PT H ps vs) : PT H (p :: ps) (v :: vs) := by
  refine ⟨by rw [List.length_cons, List.length_cons, h.1], fun i x y e1 e2 => ?_⟩
  cases i with
  | zero => cases e1; cases e2; exact h1
  | succ i => exact h.2 i x y e1 e2
theorem _root_.WX.PT.perm' {H : Hp} {vs ys : List V} (h : vs.Perm ys) : ∀ {ps : List (Str × Str)}, PT H ps vs → ∃ qs, qs.Perm ps ∧ PT H qs ys := by
  induction h with
  | nil => exact fun {ps} h => ⟨ps, List.Perm.refl _, h⟩
  | cons x _ ih =>
    intro ps h
    obtain ⟨p, qs, rfl, h1, h2⟩ := h.cons
    obtain ⟨rs, h3, h4⟩ := ih h2
    exact ⟨p :: rs, h3.cons p, PT.mk h1 h4⟩
  | swap x y l =>
    intro ps h
    obtain ⟨p, qs, rfl, h1, h2⟩ := h.cons
    obtain ⟨p2, qs2, rfl, h3, h4⟩ := h2.cons
    exact ⟨p2 :: p :: qs2, List.Perm.swap _ _ _, PT.mk h3 (PT.mk h1 h4)⟩
  | trans _ _ ih1 ih2 =>
    intro ps h
    obtain ⟨q1, h1, h2⟩ := ih1 h
    obtain ⟨q2, h3, h4⟩ := ih2 h2
    exact ⟨q2, h3.trans h1, h4⟩
theorem _root_.WX.PT.perm {H : Hp} {vs ys : List V} {ps : List (Str × Str)} (h : PT H ps vs) (p : ys.Perm vs) : ∃ qs, qs.Perm ps ∧ PT H qs ys := PT.perm' p.symm h
theorem _root_.WX.PT.sub {H : Hp} {vs ys : List V} (h : ys.Sublist vs) : ∀ {ps : List (Str × Str)}, PT H ps vs → ∃ qs, qs.Sublist ps ∧ PT H qs ys := by
  induction h with
  | slnil => exact fun {ps} h => ⟨ps, List.Sublist.refl _, h⟩
  | cons x _ ih =>
    intro ps h
    obtain ⟨p, qs, rfl, h1, h2⟩ := h.cons
    obtain ⟨rs, h3, h4⟩ := ih h2
    exact ⟨rs, h3.cons p, h4⟩
  | cons_cons x _ ih =>
    intro ps h
    obtain ⟨p, qs, rfl, h1, h2⟩ := h.cons
    obtain ⟨rs, h3, h4⟩ := ih h2
    exact ⟨p :: rs, h3.cons₂ p, PT.mk h1 h4⟩
theorem ordP_ord (e : Str × Str) : ordP (ordP e) = ordP e := by
  unfold ordP
  by_cases h : e.1.cps.toList < e.2.cps.toList
  · rw [if_pos h, if_pos h]
  · rw [if_neg h]
    by_cases g : e.2.cps.toList < e.1.cps.toList
    · rw [if_pos g]
    · rw [if_neg g]
      have : e.1 = e.2 := str_ext (List.le_antisymm (List.not_lt.mp g) (List.not_lt.mp h))
      rw [this]
theorem ordP_two (e : Str × Str) : ordP e = e ∨ ordP e = (e.2, e.1) := by
  unfold ordP
  split
  · exact .inl rfl
  · exact .inr rfl
theorem ordP_sw (e : Str × Str) : ordP (e.2, e.1) = ordP e := by
  unfold ordP
  by_cases h : e.1.cps.toList < e.2.cps.toList
  · rw [if_pos h, if_neg (fun g => absurd (List.lt_trans h g) (List.lt_irrefl _))]
  · rw [if_neg h]
    by_cases g : e.2.cps.toList < e.1.cps.toList
    · rw [if_pos g]
    · rw [if_neg g]
      have : e.1 = e.2 := str_ext (List.le_antisymm (List.not_lt.mp g) (List.not_lt.mp h))
      rw [this]
theorem nd_map {α β : Type} {f : α → β} : ∀ {l : List α}, l.Nodup → (∀ x ∈ l, ∀ y ∈ l, f x = f y → x = y) → (l.map f).Nodup
  | [], _, _ => List.nodup_nil
  | x :: l, nd, h => by
    obtain ⟨n1, n2⟩ := List.nodup_cons.mp nd
    rw [List.map_cons, List.nodup_cons]
    refine ⟨fun m => ?_, nd_map n2 fun a ha b hb => h a (List.mem_cons_of_mem _ ha) b (List.mem_cons_of_mem _ hb)⟩
    obtain ⟨y, hy, e⟩ := List.mem_map.mp m
    exact n1 (h y (List.mem_cons_of_mem _ hy) x List.mem_cons_self e ▸ hy)
/-- a web as the law makes it -/
structure Wok (Ps : List Str) (T : List (Str × Str)) : Prop where
  fit : Fit Ps T
  ps : sortS Ps = Ps
  to : T.map ordP = T
  ts : sortP T = T
theorem Wok.of {Ps : List Str} {E : List (Str × Str)} (F : Fit Ps E) : Wok (sortS Ps) (sortP (E.map ordP)) := by
  have ok := F.ok
  have ho : ∀ e ∈ sortP (E.map ordP), ∃ e0 ∈ E, e = ordP e0 := fun e he => by
    obtain ⟨e0, h0, rfl⟩ := List.mem_map.mp ((sortP_pm _).mem_iff.mp he)
    exact ⟨e0, h0, rfl⟩
  have to : (sortP (E.map ordP)).map ordP = sortP (E.map ordP) := by
    refine (List.map_congr_left fun e he => ?_).trans (List.map_id _)
    obtain ⟨e0, _, rfl⟩ := ho e he
    exact ordP_ord e0
  refine ⟨⟨ok.ne, ok.p20, ok.nd, ok.nam, ok.t60, ok.inP, fun e he => ?_, ?_⟩, sortS_of (List.Perm.refl _), to, sortP_of (List.Perm.refl _)⟩
  · obtain ⟨e0, h0, rfl⟩ := ho e he
    have := F.dif e0 h0
    rcases ordP_two e0 with h | h <;> rw [h]
    · exact this
    · exact this.symm
  · rw [to]
    exact (sortP_pm _).nodup_iff.mpr F.end'
theorem Wok.perm {Ps Ps' : List Str} {T E : List (Str × Str)} (W : Wok Ps T) (p : Ps'.Perm Ps) (q : (E.map ordP).Perm T) : Fit Ps' E ∧ sortS Ps' = Ps ∧ sortP (E.map ordP) = T := by
  have F := W.fit
  have hm : ∀ e ∈ E, ordP e ∈ T := fun e he => q.mem_iff.mp (List.mem_map.mpr ⟨e, he, rfl⟩)
  refine ⟨⟨fun z => F.ne ?_, by rw [p.length_eq]; exact F.p20, p.nodup_iff.mpr F.pnd, fun x hx => F.nam x (p.mem_iff.mp hx), ?_, fun e he => ?_, fun e he => ?_, ?_⟩, (sortS_eq p).trans W.ps, (sortP_eq q).trans W.ts⟩
  · rw [z] at p
    exact List.length_eq_zero_iff.mp p.length_eq.symm
  · have := q.length_eq
    rw [List.length_map] at this
    rw [this]
    exact F.e60
  · have := F.inP _ (hm e he)
    rcases ordP_two e with h | h <;> rw [h] at this
    · exact ⟨p.mem_iff.mpr this.1, p.mem_iff.mpr this.2⟩
    · exact ⟨p.mem_iff.mpr this.2, p.mem_iff.mpr this.1⟩
  · have := F.dif _ (hm e he)
    rcases ordP_two e with h | h <;> rw [h] at this
    · exact this
    · exact this.symm
  · refine q.nodup_iff.mpr ?_
    have := F.end'
    rw [W.to] at this
    exact this
theorem Fit.sub {Ps : List Str} {E E' : List (Str × Str)} (F : Fit Ps E) (h : E'.Sublist E) : Fit Ps E' :=
  ⟨F.ne, F.p20, F.pnd, F.nam, Nat.le_trans h.length_le F.e60, fun e he => F.inP e (h.mem he), fun e he => F.dif e (h.mem he), (h.map _).nodup F.end'⟩
/-- the name of a number -/
def nmAt (ws : List Str) (i : Int) : Str := ws[i.toNat]?.getD Str.empty
def nmP (ws : List Str) (p : Int × Int) : Str × Str := (nmAt ws p.1, nmAt ws p.2)
theorem nmAt_get {ws : List Str} {i : Int} (h1 : i < ws.length) (h0 : 0 ≤ i) : ws[i.toNat]? = some (nmAt ws i) := by
  unfold nmAt
  rw [List.getElem?_eq_getElem (by omega)]
  rfl
theorem nmAt_inj {ws : List Str} (nd : ws.Nodup) {i j : Int} (h0 : 0 ≤ i) (h1 : i < ws.length) (g0 : 0 ≤ j) (g1 : j < ws.length) (e : nmAt ws i = nmAt ws j) : i = j := by
  have := (List.getElem?_inj (i := i.toNat) (j := j.toNat) (by omega) nd).mp (by rw [nmAt_get h1 h0, nmAt_get g1 g0, e])
  omega
theorem fit_of {ws : List Str} {ps : List (Int × Int)} (hn : ∀ z ∈ ws, Nam z) (nd : ws.Nodup) (h1 : 1 ≤ ws.length) (h20 : ws.length ≤ 20) (hp : PrsL ws.length ps) (h60 : ps.length ≤ 60) : Fit ws (ps.map (nmP ws)) := by
  have mem : ∀ i : Int, 0 ≤ i → i < ws.length → nmAt ws i ∈ ws := fun i h0 h1 => List.mem_of_getElem? (nmAt_get h1 h0)
  refine ⟨fun z => by rw [z] at h1; exact absurd h1 (by decide), h20, nd, hn, by rw [List.length_map]; exact h60, fun e he => ?_, fun e he => ?_, ?_⟩
  · obtain ⟨p, h, rfl⟩ := List.mem_map.mp he
    obtain ⟨a, b, c⟩ := hp.2 p h
    exact ⟨mem _ (by omega) (by omega), mem _ (by omega) (by omega)⟩
  · obtain ⟨p, h, rfl⟩ := List.mem_map.mp he
    obtain ⟨a, b, c⟩ := hp.2 p h
    intro z
    have := nmAt_inj nd (by omega) (by omega) (by omega) (by omega) z
    omega
  · rw [List.map_map]
    refine nd_map hp.1 fun p h q g e => ?_
    obtain ⟨a, b, c⟩ := hp.2 p h
    obtain ⟨a', b', c'⟩ := hp.2 q g
    have inj := fun i j h0 h1 g0 g1 e => nmAt_inj nd (i := i) (j := j) h0 h1 g0 g1 e
    have key : (nmAt ws p.1 = nmAt ws q.1 ∧ nmAt ws p.2 = nmAt ws q.2) ∨ (nmAt ws p.1 = nmAt ws q.2 ∧ nmAt ws p.2 = nmAt ws q.1) := by
      have e : ordP (nmP ws p) = ordP (nmP ws q) := e
      rcases ordP_two (nmP ws p) with h | h <;> rcases ordP_two (nmP ws q) with g | g <;> rw [h, g] at e <;> have e1 := congrArg Prod.fst e <;> have e2 := congrArg Prod.snd e
      · exact .inl ⟨e1, e2⟩
      · exact .inr ⟨e1, e2⟩
      · exact .inr ⟨e2, e1⟩
      · exact .inl ⟨e2, e1⟩
    rcases key with ⟨e1, e2⟩ | ⟨e1, e2⟩
    · exact Prod.ext (inj _ _ (by omega) (by omega) (by omega) (by omega) e1) (inj _ _ (by omega) (by omega) (by omega) (by omega) e2)
    · have := inj _ _ (by omega) (by omega) (by omega) (by omega) e1
      have := inj _ _ (by omega) (by omega) (by omega) (by omega) e2
      omega
def spWebSized : Sp := fun vs H Q _ => ∃ (a c p : Addr) (many : Nat) (bound : Int) (ts : List Str), vs = [.ref a, .int many, .int bound, .ref p] ∧ StoreAt H a c ∧ H p = some (.lst (ts.map V.str)) ∧ 1 ≤ many ∧ many ≤ 20 ∧ 0 ≤ bound ∧ bound ≤ 60 ∧ ts.length ≤ 30 ∧
  ∀ r Ps T H', StoreAt H' a c → But a H H' → H r = none → LWF H H' r Ps T → Wok Ps T → Ps.length = many → NamesL ts Ps → Q (.ref r) H'
def spWebArgs : Sp := fun vs H Q _ => ∃ (a c r : Addr) (Ps : List Str) (T : List (Str × Str)), vs = [.ref a, .ref r] ∧ StoreAt H a c ∧ LW H r Ps T ∧ Ps.length ≤ 20 ∧ T.length ≤ 60 ∧
  ∀ q p t Ps' E H', StoreAt H' a c → But a H H' → H q = none → H' q = some (.tup [.ref p, .ref t]) → Args H' p t Ps' E → Ps'.Perm Ps → (E.map ordP).Perm (T.map ordP) → Q (.ref q) H'
section
variable {P : Program} {w : World} {K : PySem.W.Frag} {mg : Str → Option Value} {base : Heap}
theorem ok_websized {f f_names f_shape f_webof : Addr} {fd fd_names fd_shape fd_webof : FuncData} (B : Bi mg) (D : Dn K mg "_law_web_sized" s_websized ["store", "many", "bound", "taken"] f fd) (D_names : Dn K mg "_law_names" s_names ["store", "many", "taken"] f_names fd_names) (D_shape : Dn K mg "_law_shape" s_shape ["store", "many", "bound"] f_shape fd_shape) (D_webof : Dn K mg "_law_web_of" s_webof ["places", "ties"] f_webof fd_webof)
    (G_names : FnOk P w K mg base CX0 6 f_names fd_names ["store", "many", "taken"] spNames) (G_shape : FnOk P w K mg base CX0 4 f_shape fd_shape ["store", "many", "bound"] spShape) (G_webof : FnOk P w K mg base CX0 2 f_webof fd_webof ["places", "ties"] spWebOf) : FnOk P w K mg base CX0 7 f fd ["store", "many", "bound", "taken"] spWebSized := by
  refine D.F.ok sc_websized (fun vs H Q E h => ?_) (fun cdv A outer s H vs Q E hr h => ?_)
  · obtain ⟨a, c, p, many, bound, ts, rfl, _⟩ := h
    rfl
  · obtain ⟨a, c, p, many, bound, ts, rfl, S0, hp, hm1, hm2, hb1, hb2, hts, q⟩ := h
    refine ⟨_, (pss_cons (ps_set (i := 4) sc_websized.nd rfl (.inr rfl) (pe_call G_names (hr.mono (by omega)) (by rfl) D_names.g D_names.F.kp D_names.b .nil pass0 (pa_cons (pv 0) (pa_cons (pv 1) (pa_cons (pv 3) pa_nil)))))
      (pss_cons (ps_setLc (i := 5) (own := [("pair", 6)]) (g := gName 6) (tt := tYes) (by rfl) sc_websized.nd rfl rfl (sw_true rfl rfl rfl (by decide +kernel)) (pi_listK (K := K) (pe_call G_shape (hr.mono (by omega)) (by rfl) D_shape.g D_shape.F.kp D_shape.b .nil pass0 (pa_cons (pv 0) (pa_cons (pv 1) (pa_cons (pv 2) pa_nil))))) (blkOk_by (own := [("pair", 6)]) (N := ["store", "many", "bound", "taken", "names", "ties", "pair"]) (sc := defScope s_websized) (by decide +kernel)) (fun _ _ _ _ _ => pg_name (i := 6) sc_websized.nd rfl (Or.inl rfl)) (fun _ _ _ _ _ => pts_nil) (fun _ _ _ _ _ => (pe_tup (pa_cons (pe_ix (ix_listK (K := K)) (pv 4) (pe_ix (ix_sxK (K := K)) (pv 6) pe_int (fun _ _ => rfl)) (fun _ _ => rfl)) (pa_cons (pe_ix (ix_listK (K := K)) (pv 4) (pe_ix (ix_sxK (K := K)) (pv 6) pe_int (fun _ _ => rfl)) (fun _ _ => rfl)) pa_nil)))))
      (pss_one (ps_ret (pe_call G_webof (hr.mono (by omega)) (by rfl) D_webof.g D_webof.F.kp D_webof.b .nil pass0 (pa_cons (pv 4) (pa_cons (pv 5) pa_nil))))))), ?_⟩
    walk_at "st"
    refine ⟨a, c, p, many, ts, rfl, S0, hp, S0.nS hp, by omega, hts, fun nl ws H1 S1 b1 nnl hnl hwl hws => ?_⟩
    walk_at "st"
    refine ⟨a, c, many, bound, rfl, S1, by omega, by omega, hb1, by omega, fun sq ps vs H2 S2 b2 nsq hsq hat prs hpl => ⟨sq, rfl, ⟨_, sq_of hsq⟩, fun Dd nD => ?_⟩⟩
    have hnl2 := b2 _ _ (S1.nS hnl) hnl
    refine r_lcTL vs (fun i H' => Keeps H2 H' ∧ ∃ us, H' Dd = some (.lst us) ∧ PT H' ((ps.take i).map (nmP ws)) us) (fun _ => rfl) ⟨Keeps.new nD, [], upd_same, PT.nil⟩ (fun i H' _ h => sq_of (h.1 _ _ hsq)) ?_ ?_
    · rintro i v H' hx ⟨k, us, hD, hus⟩ N kN
      have hi : i < ps.length := by have := lt_of_get hx; have := hat.1; omega
      have he := List.getElem?_eq_getElem hi
      obtain ⟨p1, p2, p3⟩ := prs.2 _ (List.getElem_mem hi)
      generalize ps[i] = e0 at he p1 p2 p3
      obtain ⟨u, rfl, _, hu⟩ := hat.2 i _ v he hx
      have hu' := k _ _ hu
      have tt : SqL K H' u [.int e0.1, .int e0.2] ∨ SqT K H' u [.int e0.1, .int e0.2] := .inr (tup_at hu')
      have g1 := nmAt_get (ws := ws) (i := e0.1) (by omega) (by omega)
      have g2 := nmAt_get (ws := ws) (i := e0.2) (by omega) (by omega)
      have hl := sq_of (K := K) (k _ _ hnl2)
      have ix : ∀ (j : Int) z, 0 ≤ j → ws[j.toNat]? = some z → atI (ws.map V.str) j = some (.str z) := fun j z h0 h => by
        have e : j = (j.toNat : Int) := by omega
        rw [e]
        exact atI_nat (by rw [List.getElem?_map, h]; rfl)
      walk_at "rt"
      refine ⟨_, tt, _, rfl, _, _, rfl, hl, _, ix _ _ (by omega) g1, _, tt, _, rfl, _, _, rfl, hl, _, ix _ _ (by omega) g2, by rw [PySem.sizeLine_eq]; decide, fun r nr => ?_⟩
      have rD : Dd ≠ r := ne_of_none hD nr
      refine kN _ _ us ((upd_ne rD).trans hD) (size_ok (by rw [hus.1, List.length_map, List.length_take]; omega)) ⟨(k.put (k.free nr)).put nD, _, upd_same, ?_⟩
      rw [take_snoc he, List.map_append]
      refine PT.snoc ((hus.keeps (Keeps.new nr)).upd ((upd_ne rD).trans hD) (fun xs h => by cases h)) ?_
      rw [upd_ne rD.symm, upd_same]
      rfl
    · rintro H3 ⟨k3, us, hD, hus⟩
      have el : ps.take vs.length = ps := List.take_of_length_le (by rw [hat.1]; exact Nat.le_refl _)
      rw [el] at hus
      have F := fit_of (fun z hz => (hws.1 z hz).1) hws.2 (by omega) (by omega) (by rw [hwl]; exact prs) (ps := ps) (by omega)
      refine ⟨nl, Dd, ws, ps.map (nmP ws), rfl, ⟨k3 _ _ hnl2, us, hD, hus⟩, F.p20, F.e60, F.inP, fun r H4 k4 nr hlw => ?_⟩
      have b4 := ((b1.trans b2).trans (Keeps.but (a := a) k3)).trans (Keeps.but k4)
      have S3 := Keeps.store S2 k3
      refine q r _ _ H4 (Keeps.store S3 k4) b4 ?_ (hlw.of fun p hp => ?_) (Wok.of F) (by rw [(sortS_pm ws).length_eq]; exact hwl) ⟨fun z hz => hws.1 z ((sortS_pm ws).mem_iff.mp hz), (sortS_pm ws).nodup_iff.mpr hws.2⟩
      · cases e : H r with
        | none => rfl
        | some o => have := ((b1.trans b2).trans (Keeps.but (a := a) k3)) r o (S3.ne1 nr) e; rw [nr] at this; cases this
      · cases e : H p with
        | none => rfl
        | some o => have := ((b1.trans b2).trans (Keeps.but (a := a) k3)) p o (S3.ne1 hp) e; rw [hp] at this; cases this
end
end K01
namespace K01
open PySem PySem.Spec PyProof.Rows L2 TL HotExc Tw WX
local macro_rules | `(tactic| walk_at "rd") => `(tactic| simp only [start1, wipe, isR, isBool, isInt, isStr, isLst, isTup, tAsg, gName, gSub, tVar, tC, tOp, tUn, tTest, tIfS, tRet, tRetN, tDrop, tB, tAnd, tOr, tNot, tAndV, tOrV, tNotV, tIf, tCB, tCons, tNil, tNext, tCall, tBM, tTup, tLst, rU, rInW, rNinW, Int.reduceNeg, tG, tG2, sP, tFldC, sFldC, tProp, tMeth, tMake, rOwnC, rLenO, rIsC, rNoT, tAddT, tSAddK, rSAddK, rSInK, rSet0K, rSet0T, rMinS, rMaxS, rSortedQ, rSortedT, rEqD, rNeD, rIxD, dcL_eq, dcZ_eq, lcO_eq, forE_eq, forT_eq, lcS_eq, ItX.rIterN, iOwn, List.append_nil, tDisp, tPairs, tCallS, tCallSD, tCallT, StX.tStar, tCallK, tCallKS, rTupOf, tDrop, rI0, rI, rEq, rNe, scal, forR_eq, forR2_eq, forS_eq, forL_eq, lcT_eq, lcRT_eq, lcS_eq, rLenX, rLenS, rListOf, tRevL, rMulS, rRepL, rCatL, rSumN, rMaxN, tBM0, rPop, tAug, ipI,  tPart, tNoPart, CwR.tReplC, rAllK, rInSg, rNinSg, sgn_inj, rAddS, rInSt, tChain, tM1, tM0, rSplitN, rJoinN, exists_eq, rIntI, rIntB, rIntS, rStrI, rAbs, rOrd, rMin, rMax, rIxL, rIxX, rSetL, rAppend, rIxS, rSlS, rSlL, tSl, List.map_cons, List.map_nil, List.replicate_succ, List.replicate_zero, List.length_cons, List.length_nil, Nat.reduceSub, Nat.reduceAdd, Nat.zero_add, Nat.sub_self, List.getElem?_cons_zero, List.getElem?_cons_succ, List.set_cons_zero, List.set_cons_succ, List.append_nil, List.nil_append, List.cons_append, Option.some.injEq, not_true_eq_false, reduceCtorEq, exists_eq_left', exists_eq_left, exists_eq', exists_and_left, exists_and_right, V.int.injEq, V.str.injEq, V.bl.injEq, V.ref.injEq, List.cons.injEq, and_true, true_and, and_assoc, decide_eq_true_eq, Bool.not_eq_true', decide_eq_false_iff_not, ite_true, ite_false, if_true, if_false, Bool.not_true, Bool.not_false, Bool.false_eq_true, eq_self_iff_true, reduceIte, ne_eq, Int.reduceEq, not_false_eq_true])
local macro_rules | `(tactic| walk_at "rt") => `(tactic| try walk_at "rd")
local macro_rules | `(tactic| walk_at "st") => `(tactic| (walk_at "rt"; refine r_seq ?_; walk_at "rt"))
local macro_rules | `(tactic| walk_at "hp") => `(tactic| first | assumption | exact upd_same | (rw [upd_ne (by assumption)]; walk_at "hp"))
local macro_rules | `(tactic| walk_at "ex1") => `(tactic| ((with_reducible refine Exists.intro ?w (And.intro ?hx ?_)); (case hx => first | exact sq_of (by walk_at "hp") | exact .inl (sq_of (by walk_at "hp")) | exact rfl | (show _ = some (HO.lst _); walk_at "hp"))))
local macro_rules | `(tactic| walk_at "ex") => `(tactic| repeat (first | walk_at "ex1" | walk_at "rd"))

abbrev s_stranger : Stmt := topS 65
theorem sc_stranger : FnScope ["store", "taken", "name", "kind"] ["store", "taken"] (defScope s_stranger) := ⟨rfl, rfl, rfl, by decide +kernel, rfl, by decide +kernel, by decide +kernel⟩

def spSomeA : Sp := fun vs H Q _ => ∃ (a c p : Addr) (ws : List Str), vs = [.ref a, .ref p] ∧ StoreAt H a c ∧ H p = some (.lst (ws.map V.str)) ∧ ws.length ≤ 60 ∧
  ∀ q ys H', StoreAt H' a c → But a H H' → H q = none → H' q = some (.lst ((ys : List Str).map V.str)) → (∀ y ∈ ys, y ∈ ws) → ys.length ≤ ws.length + 1 → Q (.ref q) H'
def spStranger : Sp := fun vs H Q _ => ∃ (a c p : Addr) (ts : List Str), vs = [.ref a, .ref p] ∧ StoreAt H a c ∧ H p = some (.lst (ts.map V.str)) ∧ ts.length < 60 ∧ (∀ z ∈ ts, nm (tl z)) ∧ Drawn H a c (fun v => ∃ z : Str, v = .str z ∧ nm (tl z) ∧ z ∉ ts) Q
def spFirstOdd : Sp := fun vs H Q _ => ∃ (p r : Addr) (ws zs : List Str), vs = [.ref p, .ref r] ∧ H p = some (.lst (ws.map V.str)) ∧ H r = some (.lst (zs.map V.str)) ∧ Q (match zs.find? (fun z => decide (z ∉ ws)) with | some z => .str z | none => .non) H
theorem sub_strs {ys : List V} {ws : List Str} (h : ys.Sublist (ws.map V.str)) : ∃ zs : List Str, ys = zs.map V.str ∧ zs.Sublist ws := by
  obtain ⟨zs, h1, h2⟩ := List.sublist_map_iff.mp h
  exact ⟨zs, h2, h1⟩
section
variable {P : Program} {w : World} {K : PySem.W.Frag} {mg : Str → Option Value} {base : Heap}
end
end K01
namespace K01
open PySem PySem.Spec PyProof.Rows L2 TL HotExc Tw WX
local macro_rules | `(tactic| walk_at "rd") => `(tactic| simp only [start1, wipe, isR, isBool, isInt, isStr, isLst, isTup, tAsg, gName, gSub, tVar, tC, tOp, tUn, tTest, tIfS, tRet, tRetN, tDrop, tB, tAnd, tOr, tNot, tAndV, tOrV, tNotV, tIf, tCB, tCons, tNil, tNext, tCall, tBM, tTup, tLst, rU, rInW, rNinW, Int.reduceNeg, tG, tG2, sP, tFldC, sFldC, tProp, tMeth, tMake, rOwnC, rLenO, rIsC, rNoT, tAddT, tSAddK, rSAddK, rSInK, rSet0K, rSet0T, rMinS, rMaxS, rSortedQ, rSortedT, rEqD, rNeD, rIxD, dcL_eq, dcZ_eq, lcO_eq, forE_eq, forT_eq, lcS_eq, ItX.rIterN, iOwn, List.append_nil, tDisp, tPairs, tCallS, tCallSD, tCallT, StX.tStar, tCallK, tCallKS, rTupOf, tDrop, rI0, rI, rEq, rNe, scal, forR_eq, forR2_eq, forS_eq, forL_eq, lcT_eq, lcRT_eq, lcS_eq, rLenX, rLenS, rListOf, tRevL, rMulS, rRepL, rCatL, rSumN, rMaxN, tBM0, rPop, tAug, ipI,  tPart, tNoPart, CwR.tReplC, rAllK, rInSg, rNinSg, sgn_inj, rAddS, rInSt, tChain, tM1, tM0, rSplitN, rJoinN, exists_eq, rIntI, rIntB, rIntS, rStrI, rAbs, rOrd, rMin, rMax, rIxL, rIxX, rSetL, rAppend, rIxS, rSlS, rSlL, tSl, List.map_cons, List.map_nil, List.replicate_succ, List.replicate_zero, List.length_cons, List.length_nil, Nat.reduceSub, Nat.reduceAdd, Nat.zero_add, Nat.sub_self, List.getElem?_cons_zero, List.getElem?_cons_succ, List.set_cons_zero, List.set_cons_succ, List.append_nil, List.nil_append, List.cons_append, Option.some.injEq, not_true_eq_false, reduceCtorEq, exists_eq_left', exists_eq_left, exists_eq', exists_and_left, exists_and_right, V.int.injEq, V.str.injEq, V.bl.injEq, V.ref.injEq, List.cons.injEq, and_true, true_and, and_assoc, decide_eq_true_eq, Bool.not_eq_true', decide_eq_false_iff_not, ite_true, ite_false, if_true, if_false, Bool.not_true, Bool.not_false, Bool.false_eq_true, eq_self_iff_true, reduceIte, ne_eq, Int.reduceEq, not_false_eq_true])
local macro_rules | `(tactic| walk_at "rt") => `(tactic| try walk_at "rd")
local macro_rules | `(tactic| walk_at "st") => `(tactic| (walk_at "rt"; refine r_seq ?_; walk_at "rt"))
local macro_rules | `(tactic| walk_at "hp") => `(tactic| first | assumption | exact upd_same | (rw [upd_ne (by assumption)]; walk_at "hp"))
local macro_rules | `(tactic| walk_at "ex1") => `(tactic| ((with_reducible refine Exists.intro ?w (And.intro ?hx ?_)); (case hx => first | exact sq_of (by walk_at "hp") | exact .inl (sq_of (by walk_at "hp")) | exact rfl | (show _ = some (HO.lst _); walk_at "hp"))))
local macro_rules | `(tactic| walk_at "ex") => `(tactic| repeat (first | walk_at "ex1" | walk_at "rd"))
theorem cut_last1 (l : List Nat) : cutS (S l) none (some (-1)) = S (l.take (l.length - 1)) := by
  have e : HT.sIx (S l).length (S l).length (some (-1)) = l.length - 1 := by
    rw [S_len]
    show (if (-1 : Int) < 0 then ((-1 : Int) + (l.length : Int)).toNat else min (-1 : Int).toNat l.length) = _
    rw [if_pos (by decide)]
    omega
  unfold cutS
  rw [HT.sIx_none, e, List.drop_zero, Nat.sub_zero]
  rfl
theorem nm_take6 {l : List Nat} {k : Nat} (h : nm l) (hk : lod k) : nm ((l ++ [k]).take 6) := by
  have hl := okd_len (.inr h)
  rw [List.take_append]
  refine nm_mix h (by decide) (fun x hx => ?_) ?_
  · rw [List.mem_singleton.mp (List.mem_of_mem_take hx)]
    exact hk
  · rw [List.length_take, List.length_take, List.length_singleton]
    omega
section
variable {P : Program} {w : World} {K : PySem.W.Frag} {mg : Str → Option Value} {base : Heap}
theorem ok_stranger {f f_name f_take f_pick f_unlike : Addr} {fd fd_name fd_take fd_pick fd_unlike : FuncData} (B : Bi mg) (D : Dn K mg "_law_stranger" s_stranger ["store", "taken"] f fd) (D_name : Dn K mg "_law_name" s_name ["store"] f_name fd_name) (D_take : Dn K mg "_law_take" s_take ["store", "many"] f_take fd_take) (D_pick : Dn K mg "_law_pick" s_pick ["store", "row"] f_pick fd_pick) (D_unlike : Dn K mg "_law_unlike" s_unlike ["name", "taken"] f_unlike fd_unlike)
    (G_name : FnOk P w K mg base CX0 5 f_name fd_name ["store"] spNam) (G_take : FnOk P w K mg base CX0 2 f_take fd_take ["store", "many"] spTake) (G_pick : FnOk P w K mg base CX0 3 f_pick fd_pick ["store", "row"] spPick) (G_pickL : FnOk P w K mg base CX0 3 f_pick fd_pick ["store", "row"] spPickL) (G_unlike : FnOk P w K mg base CX0 1 f_unlike fd_unlike ["name", "taken"] spUnlike) : FnOk P w K mg base CX0 6 f fd ["store", "taken"] spStranger := by
  refine D.F.ok sc_stranger (fun vs H Q E h => ?_) (fun cdv A outer s H vs Q E hr h => ?_)
  · obtain ⟨a, c, p, ts, rfl, _⟩ := h
    rfl
  · obtain ⟨a, c, p, ts, rfl, S0, hp, hl, hnm, q⟩ := h
    refine ⟨_, (pss_cons (ps_set (i := 2) sc_stranger.nd rfl (.inl rfl) (pe_call G_name (hr.mono (by omega)) (by rfl) D_name.g D_name.F.kp D_name.b .nil pass0 (pa_cons (pv 0) pa_nil)))
      (pss_cons (ps_set (i := 3) sc_stranger.nd rfl (.inl rfl) (pe_call G_take (hr.mono (by omega)) (by rfl) D_take.g D_take.F.kp D_take.b .nil pass0 (pa_cons (pv 0) (pa_cons pe_int pa_nil))))
      (C8.pss_cut (ps_if (PW.pt (pw_and (pt_cmpR op_lt (pv 3) pe_int (nomark _)) (pw_and1 (pt_cmpR op_gt (pe_callB (call_lenXK (K := K)) (by rfl) B.len PySem.boot_len (pa_cons (pv 1) pa_nil)) pe_int (nomark _))))) (pss_cons (ps_set (i := 2) sc_stranger.nd rfl (.inl rfl) (pe_call G_pickL (hr.mono (by omega)) (by rfl) D_pick.g D_pick.F.kp D_pick.b .nil pass0 (pa_cons (pv 0) (pa_cons (pv 1) pa_nil))))
      (pss_one (ps_if (PW.pt (pw_or (pt_cmpR op_eq (pv 3) pe_int (nomark _)) (pw_or1 (pt_cmpR op_eq (pe_callB call_lenS (by rfl) B.len PySem.boot_len (pa_cons (pv 2) pa_nil)) pe_int (nomark _))))) (pss_one (ps_set (i := 2) sc_stranger.nd rfl (.inl rfl) (pe_slice sl_str (pe_op op_addS (pv 2) (pe_call G_pick (hr.mono (by omega)) (by rfl) D_pick.g D_pick.F.kp D_pick.b .nil pass0 (pa_cons (pv 0) (pa_cons pe_str pa_nil)))) po_none (po_some pe_int)))) (pss_one (ps_set (i := 2) sc_stranger.nd rfl (.inl rfl) (pe_slice sl_str (pv 2) po_none (po_some (pe_un un_neg pe_int)))))))) pss_nil)
      (C8.pss_cut (ps_if (pt_cmpR op_eq (pv 3) pe_int (nomark _)) (pss_one (ps_set (i := 2) sc_stranger.nd rfl (.inl rfl) pe_str)) pss_nil)
      (pss_one (ps_ret (pe_call G_unlike (hr.mono (by omega)) (by rfl) D_unlike.g D_unlike.F.kp D_unlike.b .nil pass0 (pa_cons (pv 2) (pa_cons (pv 1) pa_nil))))))))), ?_⟩
    walk_at "st"
    refine ⟨a, c, rfl, S0, fun v H1 S1 b1 ⟨l, e, hl1⟩ => ?_⟩
    subst e
    walk_at "st"
    refine ⟨a, c, _, rfl, S1, by decide, fun v H2 S2 b2 ⟨kind, e, k0, k1⟩ => ?_⟩
    subst e
    have hp2 := b2 _ _ (S1.nS (b1 _ _ (S0.nS hp) hp)) (b1 _ _ (S0.nS hp) hp)
    have b02 := b1.trans b2
    walk_at "rt"
    refine r_cut (fun σ H' => StoreAt H' a c ∧ But a H2 H' ∧ ∃ l, nm l ∧ σ = [some (.ref a), some (.ref p), some (.str (S l)), some (.int kind)]) (fun N kk => ?_) ?_
    · have same := kk _ _ ⟨S2, fun _ _ _ h => h, l, hl1, rfl⟩
      walk_at "rt"
      refine ite2 (fun _ => ⟨_, .inl (sq_of hp2), ite2 (fun hpos => ?_) (fun _ => same)⟩) (fun _ => same)
      walk_at "st"
      refine ⟨a, c, p, _, rfl, S2, hp2, S2.nS hp2, fun z => ?_, by rw [List.length_map]; omega, fun v H3 S3 b3 hv => ?_⟩
      · rw [List.map_eq_nil_iff.mp z] at hpos
        exact absurd hpos (by decide)
      obtain ⟨y, hy, rfl⟩ := List.mem_map.mp hv
      have hy := hnm y hy
      rw [show y = S (tl y) from (S_tl y).symm]
      generalize tl y = ly at hy
      have hly := okd_len (.inr hy)
      walk_at "rt"
      have more : spPick [V.ref a, V.str (Str.ofString "a0z")] H3 (fun y H2 => ∃ j, y = V.str j ∧ (S ly).length + j.length ≤ sizeLine ∧ (S ly ++ j).length ≤ sizeLine ∧ N [some (V.ref a), some (V.ref p), some (V.str (cutS (S ly ++ j) none (some 6))), some (V.int kind)] H2) E0 := by
        refine ⟨a, c, _, rfl, S3, by decide +kernel, by decide +kernel, fun v H4 S4 b4 ⟨k, hk, e⟩ => ⟨_, e, ?_⟩⟩
        have hk : lod k := by
          have e : (Str.ofString "a0z").cps.toList = [97, 48, 122] := by decide +kernel
          rw [e] at hk
          simp only [List.mem_cons, List.not_mem_nil, or_false] at hk
          rcases hk with rfl | rfl | rfl
          · exact .inl ⟨by decide, by decide⟩
          · exact .inr ⟨by decide, by decide⟩
          · exact .inl ⟨by decide, by decide⟩
        rw [show ({ cps := #[k] } : Str) = S [k] from rfl, S_app, S_len, S_len, S_len]
        refine ⟨line_of (by rw [List.length_singleton]; omega), line_of (by rw [List.length_append, List.length_singleton]; omega), kk _ _ ⟨S4, b3.trans b4, (ly ++ [k]).take 6, nm_take6 hy hk, ?_⟩⟩
        rw [show cutS (S (ly ++ [k])) none (some 6) = S ((ly ++ [k]).take 6) from cut_pre (ly ++ [k]) 6]
      refine ite2 (fun _ => more) (fun _ => ⟨line_of (by rw [S_len]; omega), ite2 (fun _ => more) (fun h1 => ⟨line_of (by rw [S_len]; omega), kk _ _ ⟨S3, b3, ly.take (ly.length - 1), ?_, by rw [cut_last1]⟩⟩)⟩)
      rw [S_len] at h1
      have hne := List.length_pos_iff.mpr (nm_ne hy)
      have := nm_mix (ds := []) (k := ly.length - 1) hy (by omega) (fun x hx => by cases hx) (by rw [List.length_take, List.length_nil]; omega)
      rw [List.append_nil] at this
      exact this
    rintro σ H3 ⟨S3, b3, l, hl2, rfl⟩
    have hp3 := b3 _ _ (S2.nS hp2) hp2
    walk_at "rt"
    refine r_cut (fun σ H' => H' = H3 ∧ ∃ l, nm l ∧ σ = [some (.ref a), some (.ref p), some (.str (S l)), some (.int kind)]) (fun N kk => ?_) ?_
    · walk_at "rt"
      refine ite2 (fun _ => ?_) (fun _ => kk _ _ ⟨rfl, l, hl2, rfl⟩)
      have hz : nm (tl (Str.ofString "zzzzzz")) := by
        rw [show tl (Str.ofString "zzzzzz") = [122, 122, 122, 122, 122, 122] by decide +kernel]
        exact ⟨⟨by decide, by decide⟩, by decide, fun x hx => .inl (by simp at hx; omega)⟩
      exact kk _ _ ⟨rfl, tl (Str.ofString "zzzzzz"), hz, by rw [S_tl]⟩
    rintro σ H4 ⟨rfl, l, hl3, rfl⟩
    walk_at "rt"
    exact ⟨S l, p, ts, rfl, by rw [tl_S]; exact hl3, hp3, by omega, fun y hy hn => q _ _ S3 (b02.trans b3) ⟨y, rfl, hy, hn⟩⟩
end
end K01
namespace K01
open PySem PySem.Spec PyProof.Rows L2 TL HotExc Tw WX
local macro_rules | `(tactic| walk_at "rd") => `(tactic| simp only [start1, wipe, isR, isBool, isInt, isStr, isLst, isTup, tAsg, gName, gSub, tVar, tC, tOp, tUn, tTest, tIfS, tRet, tRetN, tDrop, tB, tAnd, tOr, tNot, tAndV, tOrV, tNotV, tIf, tCB, tCons, tNil, tNext, tCall, tBM, tTup, tLst, rU, rInW, rNinW, Int.reduceNeg, tG, tG2, sP, tFldC, sFldC, tProp, tMeth, tMake, rOwnC, rLenO, rIsC, rNoT, tAddT, tSAddK, rSAddK, rSInK, rSet0K, rSet0T, rMinS, rMaxS, rSortedQ, rSortedT, rEqD, rNeD, rIxD, dcL_eq, dcZ_eq, lcO_eq, forE_eq, forT_eq, lcS_eq, ItX.rIterN, iOwn, List.append_nil, tDisp, tPairs, tCallS, tCallSD, tCallT, StX.tStar, tCallK, tCallKS, rTupOf, tDrop, rI0, rI, rEq, rNe, scal, forR_eq, forR2_eq, forS_eq, forL_eq, lcT_eq, lcRT_eq, lcS_eq, rLenX, rLenS, rListOf, tRevL, rMulS, rRepL, rCatL, rSumN, rMaxN, tBM0, rPop, tAug, ipI,  tPart, tNoPart, CwR.tReplC, rAllK, rInSg, rNinSg, sgn_inj, rAddS, rInSt, tChain, tM1, tM0, rSplitN, rJoinN, exists_eq, rIntI, rIntB, rIntS, rStrI, rAbs, rOrd, rMin, rMax, rIxL, rIxX, rSetL, rAppend, rIxS, rSlS, rSlL, tSl, List.map_cons, List.map_nil, List.replicate_succ, List.replicate_zero, List.length_cons, List.length_nil, Nat.reduceSub, Nat.reduceAdd, Nat.zero_add, Nat.sub_self, List.getElem?_cons_zero, List.getElem?_cons_succ, List.set_cons_zero, List.set_cons_succ, List.append_nil, List.nil_append, List.cons_append, Option.some.injEq, not_true_eq_false, reduceCtorEq, exists_eq_left', exists_eq_left, exists_eq', exists_and_left, exists_and_right, V.int.injEq, V.str.injEq, V.bl.injEq, V.ref.injEq, List.cons.injEq, and_true, true_and, and_assoc, decide_eq_true_eq, Bool.not_eq_true', decide_eq_false_iff_not, ite_true, ite_false, if_true, if_false, Bool.not_true, Bool.not_false, Bool.false_eq_true, eq_self_iff_true, reduceIte, ne_eq, Int.reduceEq, not_false_eq_true])
local macro_rules | `(tactic| walk_at "rt") => `(tactic| try walk_at "rd")
local macro_rules | `(tactic| walk_at "st") => `(tactic| (walk_at "rt"; refine r_seq ?_; walk_at "rt"))
local macro_rules | `(tactic| walk_at "hp") => `(tactic| first | assumption | exact upd_same | (rw [upd_ne (by assumption)]; walk_at "hp"))
local macro_rules | `(tactic| walk_at "ex1") => `(tactic| ((with_reducible refine Exists.intro ?w (And.intro ?hx ?_)); (case hx => first | exact sq_of (by walk_at "hp") | exact .inl (sq_of (by walk_at "hp")) | exact rfl | (show _ = some (HO.lst _); walk_at "hp"))))
local macro_rules | `(tactic| walk_at "ex") => `(tactic| repeat (first | walk_at "ex1" | walk_at "rd"))
abbrev s_badname : Stmt := topS 62
theorem sc_badname : FnScope ["store", "name", "at", "kind"] ["store"] (defScope s_badname) := ⟨rfl, rfl, rfl, by decide +kernel, rfl, by decide +kernel, by decide +kernel⟩


/-- a short text that is no name -/
abbrev Low (l : List Nat) : Prop := ∀ x ∈ l, x < 1114112
theorem low_ok {z : Str} : PyData.strOk z = true ↔ Low (tl z) := by
  unfold PyData.strOk
  rw [← Array.all_toList, List.all_eq_true]
  exact ⟨fun h c hc => of_decide_eq_true (h c hc), fun h c hc => decide_eq_true (h c hc)⟩
theorem low_nil : Low [] := fun _ h => (by cases h)
theorem low_app {a b : List Nat} (h : Low a) (g : Low b) : Low (a ++ b) := fun x hx => (List.mem_append.mp hx).elim (h x) (g x)
theorem low_tk {a : List Nat} {k : Nat} (h : Low a) : Low (a.take k) := fun x hx => h x (List.mem_of_mem_take hx)
theorem low_dr {a : List Nat} {k : Nat} (h : Low a) : Low (a.drop k) := fun x hx => h x (List.mem_of_mem_drop hx)
theorem low_one {c : Nat} (h : c < 1114112) : Low [c] := fun x hx => by rw [List.mem_singleton.mp hx]; exact h
theorem low_nm {l : List Nat} (h : nm l) : Low l := fun x hx => by
  have := nm_mem h hx
  rcases this with h | h <;> omega
theorem low_fl {l : List Nat} (h : Low l) (n : Nat) : Low (List.replicate n l).flatten := fun x hx => by
  obtain ⟨m, hm, hx⟩ := List.mem_flatten.mp hx
  rw [(List.mem_replicate.mp hm).2] at hx
  exact h x hx
def Bad (v : V) : Prop := ∃ z : Str, v = .str z ∧ ¬ nm (tl z) ∧ z.length ≤ 60 ∧ PyData.strOk z = true
def spBadName : Sp := fun vs H Q _ => ∃ (a c : Addr), vs = [.ref a] ∧ StoreAt H a c ∧ Drawn H a c Bad Q
theorem nm_has {l : List Nat} {c : Nat} (h : c ∈ l) (hc : ¬ lod c) : ¬ nm l := fun n => hc (nm_mem n h)
theorem nm_long {l : List Nat} (h : 7 ≤ l.length) : ¬ nm l := fun n => by have := okd_len (.inr n); omega
theorem nm_head {l : List Nat} {c : Nat} (hc : ¬ low c) : ¬ nm (c :: l) := fun n => hc n.1
theorem mul7 {l : List Nat} (h : l ≠ []) : Txt.mul (S l) 7 = S (List.replicate 7 l).flatten := by
  unfold Txt.mul
  have hn : ((7 : Int) == 1 || (S l).length == 0) = false := by
    rw [S_len]
    have := List.length_pos_iff.mpr h
    simp
    omega
  rw [if_neg (by decide), hn]
  refine tl_inj ?_
  show (List.foldl (fun x1 x2 => x1 ++ x2) (#[] : Array Nat) (List.replicate 7 (l.toArray))).toList = _
  simp [List.replicate, tl_S]
section
variable {P : Program} {w : World} {K : PySem.W.Frag} {mg : Str → Option Value} {base : Heap}
theorem ok_badname {f f_name f_take f_pick : Addr} {fd fd_name fd_take fd_pick : FuncData} (B : Bi mg) (D : Dn K mg "_law_bad_name" s_badname ["store"] f fd) (D_name : Dn K mg "_law_name" s_name ["store"] f_name fd_name) (D_take : Dn K mg "_law_take" s_take ["store", "many"] f_take fd_take) (D_pick : Dn K mg "_law_pick" s_pick ["store", "row"] f_pick fd_pick)
    (G_name : FnOk P w K mg base CX0 5 f_name fd_name ["store"] spNam) (G_take : FnOk P w K mg base CX0 2 f_take fd_take ["store", "many"] spTake) (G_pick : FnOk P w K mg base CX0 3 f_pick fd_pick ["store", "row"] spPick) : FnOk P w K mg base CX0 6 f fd ["store"] spBadName := by
  refine D.F.ok sc_badname (fun vs H Q E h => ?_) (fun cdv A outer s H vs Q E hr h => ?_)
  · obtain ⟨a, c, rfl, _⟩ := h
    rfl
  · obtain ⟨a, c, rfl, S0, q⟩ := h
    refine ⟨_, (pss_cons (ps_set (i := 1) sc_badname.nd rfl (.inl rfl) (pe_call G_name (hr.mono (by omega)) (by rfl) D_name.g D_name.F.kp D_name.b .nil pass0 (pa_cons (pv 0) pa_nil)))
      (pss_cons (ps_set (i := 2) sc_badname.nd rfl (.inl rfl) (pe_call G_take (hr.mono (by omega)) (by rfl) D_take.g D_take.F.kp D_take.b .nil pass0 (pa_cons (pv 0) (pa_cons (pe_callB call_lenS (by rfl) B.len PySem.boot_len (pa_cons (pv 1) pa_nil)) pa_nil))))
      (pss_cons (ps_set (i := 3) sc_badname.nd rfl (.inl rfl) (pe_call G_take (hr.mono (by omega)) (by rfl) D_take.g D_take.F.kp D_take.b .nil pass0 (pa_cons (pv 0) (pa_cons pe_int pa_nil))))
      (pss_cons (ps_if (pt_cmpR op_eq (pv 3) pe_int (nomark _)) (pss_one (ps_ret pe_str)) pss_nil)
      (pss_cons (ps_if (pt_cmpR op_eq (pv 3) pe_int (nomark _)) (pss_one (ps_ret (pe_op op_addS (pe_slice sl_str (pe_op op_addS (pv 1) pe_str) po_none (po_some pe_int)) (pe_call G_pick (hr.mono (by omega)) (by rfl) D_pick.g D_pick.F.kp D_pick.b .nil pass0 (pa_cons (pv 0) (pa_cons pe_str pa_nil)))))) pss_nil)
      (pss_cons (ps_if (pt_cmpR op_eq (pv 3) pe_int (nomark _)) (pss_one (ps_ret (pe_op op_addS (pe_call G_pick (hr.mono (by omega)) (by rfl) D_pick.g D_pick.F.kp D_pick.b .nil pass0 (pa_cons (pv 0) (pa_cons pe_str pa_nil))) (pe_slice sl_str (pv 1) (po_some pe_int) po_none)))) pss_nil)
      (pss_cons (ps_if (pt_cmpR op_eq (pv 3) pe_int (nomark _)) (pss_one (ps_ret (pe_op op_addS (pe_op op_addS (pe_slice sl_str (pv 1) po_none (po_some (pv 2))) (pe_call G_pick (hr.mono (by omega)) (by rfl) D_pick.g D_pick.F.kp D_pick.b .nil pass0 (pa_cons (pv 0) (pa_cons pe_str pa_nil)))) (pe_slice sl_str (pv 1) (po_some (pe_op op_add (pv 2) pe_int)) po_none)))) pss_nil)
      (pss_cons (ps_if (pt_cmpR op_eq (pv 3) pe_int (nomark _)) (pss_one (ps_ret (pe_op op_addS (pe_op op_addS (pe_op op_addS (pe_slice sl_str (pv 1) po_none (po_some (pv 2))) (pe_call G_pick (hr.mono (by omega)) (by rfl) D_pick.g D_pick.F.kp D_pick.b .nil pass0 (pa_cons (pv 0) (pa_cons pe_str pa_nil)))) (pe_slice sl_str (pv 1) (po_some (pe_op op_add (pv 2) pe_int)) po_none)) pe_str))) pss_nil)
      (pss_cons (ps_if (pt_cmpR op_eq (pv 3) pe_int (nomark _)) (pss_one (ps_ret (pe_op op_addS (pe_slice sl_str (pv 1) po_none (po_some pe_int)) (pe_call G_pick (hr.mono (by omega)) (by rfl) D_pick.g D_pick.F.kp D_pick.b .nil pass0 (pa_cons (pv 0) (pa_cons pe_str pa_nil)))))) pss_nil)
      (pss_cons (ps_if (pt_cmpR op_eq (pv 3) pe_int (nomark _)) (pss_one (ps_ret (pe_op op_addS (pe_call G_pick (hr.mono (by omega)) (by rfl) D_pick.g D_pick.F.kp D_pick.b .nil pass0 (pa_cons (pv 0) (pa_cons pe_str pa_nil))) (pe_slice sl_str (pv 1) po_none (po_some pe_int))))) pss_nil)
      (pss_cons (ps_if (pt_cmpR op_eq (pv 3) pe_int (nomark _)) (pss_one (ps_ret (pe_op op_mulS (pv 1) pe_int))) pss_nil)
      (pss_one (ps_ret (pe_call G_pick (hr.mono (by omega)) (by rfl) D_pick.g D_pick.F.kp D_pick.b .nil pass0 (pa_cons (pv 0) (pa_cons pe_str pa_nil)))))))))))))))), ?_⟩
    walk_at "st"
    refine ⟨a, c, rfl, S0, fun v H1 S1 b1 ⟨l, e, hn⟩ => ?_⟩
    subst e
    have hl := okd_len (.inr hn)
    have hpos := List.length_pos_iff.mpr (nm_ne hn)
    walk_at "st"
    rw [S_len]
    refine ⟨line_of (by omega), a, c, _, rfl, S1, by omega, fun v H2 S2 b2 ⟨at_, e, t0, t1⟩ => ?_⟩
    subst e
    walk_at "st"
    refine ⟨a, c, _, rfl, S2, by decide, fun v H3 S3 b3 ⟨kind, e, k0, k1⟩ => ?_⟩
    subst e
    have b03 := (b1.trans b2).trans b3
    obtain ⟨k, rfl⟩ : ∃ n : Nat, at_ = (n : Int) := ⟨at_.toNat, by omega⟩
    have ret : ∀ (H' : Hp) (l : List Nat), StoreAt H' a c → But a H3 H' → ¬ nm l → l.length ≤ 60 → Low l → Q (.str (S l)) H' := fun H' l S' b' hn hl lo => q _ H' S' (b03.trans b') ⟨S l, rfl, by rw [tl_S]; exact hn, by rw [S_len]; exact hl, low_ok.mpr (by rw [tl_S]; exact lo)⟩
    have Ll := low_nm hn
    have pick : ∀ (z : Str) (Qk : VK), z.cps.toList ≠ [] → z.length ≤ 1000 → PyData.strOk z = true → (∀ (ch : Nat) (H' : Hp), ch < 1114112 → ch ∈ z.cps.toList → StoreAt H' a c → But a H3 H' → Qk (.str (S [ch])) H') → spPick [V.ref a, V.str z] H3 Qk E0 := fun z Qk h1 h2 h4 h3 => ⟨a, c, z, rfl, S3, h1, h2, fun v H' S' b' ⟨ch, hc, e⟩ => by rw [e]; exact h3 ch H' (low_ok.mp h4 ch hc) hc S' b'⟩
    have sa : tl (Str.ofString "abcdef0") = [97, 98, 99, 100, 101, 102, 48] := by decide +kernel
    have e0 : cutS (S l) none (some (k : Int)) = S (l.take k) := cut_pre l k
    have e1 : cutS (S l) (some ((k : Int) + 1)) none = S (l.drop (k + 1)) := by
      rw [show ((k : Int) + 1) = ((k + 1 : Nat) : Int) by omega]
      exact cut_suf _ _
    have e5 : cutS (S l) none (some 5) = S (l.take 5) := cut_pre l 5
    have es : cutS (S l) (some 1) none = S (l.drop 1) := cut_suf l 1
    have lt : ∀ k, (l.take k).length ≤ 6 := fun k => by rw [List.length_take]; omega
    have ld : ∀ k, (l.drop k).length ≤ 6 := fun k => by rw [List.length_drop]; omega
    walk_at "st"
    refine ite2 (fun _ => ?_) (fun _ => ?_)
    · rw [S_emp]
      exact ret H3 [] S3 (fun _ _ _ h => h) (fun h => h) (by decide) low_nil
    walk_at "st"
    refine ite2 (fun _ => ?_) (fun _ => ?_)
    · rw [← S_tl (Str.ofString "abcdef0"), sa, S_app, S_len, S_len, S_len, show cutS (S (l ++ [97, 98, 99, 100, 101, 102, 48])) none (some 6) = S ((l ++ [97, 98, 99, 100, 101, 102, 48]).take 6) from cut_pre _ 6]
      have h6 : ((l ++ [97, 98, 99, 100, 101, 102, 48]).take 6).length = 6 := by
        rw [List.length_take, List.length_append]
        simp <;> omega
      refine ⟨line_of (by simp <;> omega), line_of (by rw [List.length_append]; simp <;> omega), pick _ _ (by decide +kernel) (by decide +kernel) (by decide +kernel) fun ch H' hb hc S' b' => ⟨_, rfl, ?_⟩⟩
      rw [S_app, S_len, S_len, h6]
      exact ⟨line_of (by simp), ret H' _ S' b' (nm_long (by rw [List.length_append, h6]; simp)) (by rw [List.length_append, h6]; simp) (low_app (low_tk (low_app Ll (by decide))) (low_one hb))⟩
    walk_at "st"
    refine ite2 (fun _ => ?_) (fun _ => ?_)
    · refine pick _ _ (by decide +kernel) (by decide +kernel) (by decide +kernel) fun ch H' hb hc S' b' => ⟨line_of (by rw [S_len]; omega), _, rfl, ?_⟩
      have := (digm ch).mp hc
      rw [es, S_app, S_len, S_len]
      exact ⟨line_of (by have := ld 1; simp <;> omega), ret H' _ S' b' (nm_head (by unfold low; omega)) (by have := ld 1; simp <;> omega) (low_app (low_one hb) (low_dr Ll))⟩
    walk_at "st"
    refine ite2 (fun _ => ?_) (fun _ => ?_)
    · refine ⟨line_of (by rw [S_len]; omega), pick _ _ (by decide +kernel) (by decide +kernel) (by decide +kernel) fun ch H' hb hc S' b' => ⟨_, rfl, ?_⟩⟩
      have hc : ¬ lod ch := by
        have e : (Str.ofString "ABCXYZ").cps.toList = [65, 66, 67, 88, 89, 90] := by decide +kernel
        rw [e] at hc
        simp only [List.mem_cons, List.not_mem_nil, or_false] at hc
        unfold lod
        omega
      have h1 := lt k
      have h2 := ld (k + 1)
      simp only [e0, e1, S_app, S_len, List.length_append, List.length_singleton]
      exact ⟨line_of (by omega), line_of (by omega), line_of (by omega), ret H' _ S' b' (nm_has (c := ch) (by simp) hc) (by rw [List.length_append, List.length_append, List.length_singleton]; omega) (low_app (low_app (low_tk Ll) (low_one hb)) (low_dr Ll))⟩
    walk_at "st"
    refine ite2 (fun _ => ?_) (fun _ => ?_)
    · refine ⟨line_of (by rw [S_len]; omega), pick _ _ (by decide +kernel) (by decide +kernel) (by decide +kernel) fun ch H' hb hc S' b' => ⟨_, rfl, ?_⟩⟩
      have hc : ¬ lod ch := by
        have e : ((Str.ofString " \n!.:/_-~{[(@\"'&|").cps.toList.all fun c => decide (¬ lod c)) = true := by decide +kernel
        exact of_decide_eq_true (List.all_eq_true.mp e ch hc)
      have h1 := lt k
      have h2 := ld (k + 1)
      simp only [e0, e1, show Str.ofString "a" = S [97] by decide +kernel, S_app, S_len, List.length_append, List.length_singleton]
      exact ⟨line_of (by omega), line_of (by omega), line_of (by omega), line_of (by omega), ret H' _ S' b' (nm_has (c := ch) (by simp) hc) (by rw [List.length_append, List.length_append, List.length_append, List.length_singleton, List.length_singleton]; omega) (low_app (low_app (low_app (low_tk Ll) (low_one hb)) (low_dr Ll)) (by decide))⟩
    have sp : ∀ ch, ch ∈ (Str.ofString " \n").cps.toList → ¬ lod ch := fun ch hc => by
      have e : (Str.ofString " \n").cps.toList = [32, 10] := by decide +kernel
      rw [e] at hc
      simp only [List.mem_cons, List.not_mem_nil, or_false] at hc
      unfold lod
      omega
    walk_at "st"
    refine ite2 (fun _ => ?_) (fun _ => ?_)
    · refine ⟨line_of (by rw [S_len]; omega), pick _ _ (by decide +kernel) (by decide +kernel) (by decide +kernel) fun ch H' hb hc S' b' => ⟨_, rfl, ?_⟩⟩
      have h1 := lt 5
      rw [e5, S_app, S_len, S_len]
      exact ⟨line_of (by simp <;> omega), ret H' _ S' b' (nm_has (c := ch) (by simp) (sp ch hc)) (by rw [List.length_append]; simp <;> omega) (low_app (low_tk Ll) (low_one hb))⟩
    walk_at "st"
    refine ite2 (fun _ => ?_) (fun _ => ?_)
    · refine pick _ _ (by decide +kernel) (by decide +kernel) (by decide +kernel) fun ch H' hb hc S' b' => ⟨line_of (by rw [S_len]; omega), _, rfl, ?_⟩
      have h1 := lt 5
      rw [e5, S_app, S_len, S_len]
      exact ⟨line_of (by simp <;> omega), ret H' _ S' b' (nm_has (c := ch) (by simp) (sp ch hc)) (by rw [List.length_append]; simp <;> omega) (low_app (low_one hb) (low_tk Ll))⟩
    walk_at "st"
    refine ite2 (fun _ => ?_) (fun _ => ?_)
    · rw [S_len, mul7 (nm_ne hn)]
      have hf : (List.replicate 7 l).flatten.length = 7 * l.length := by simp <;> omega
      exact ⟨6, hl, 7, by decide, by decide, by decide, by decide, ret H3 _ S3 (fun _ _ _ h => h) (nm_long (by omega)) (by omega) (low_fl Ll 7)⟩
    walk_at "rt"
    refine pick _ _ (by decide +kernel) (by decide +kernel) (by decide +kernel) fun ch H' hb hc S' b' => ret H' [ch] S' b' (nm_head ?_) (by simp) (low_one hb)
    have := (digm ch).mp hc
    unfold low
    omega
end
end K01
namespace K01
open PySem PySem.Spec PyProof.Rows L2 TL HotExc Tw WX
local macro_rules | `(tactic| walk_at "rd") => `(tactic| simp only [start1, wipe, isR, isBool, isInt, isStr, isLst, isTup, tAsg, gName, gSub, tVar, tC, tOp, tUn, tTest, tIfS, tRet, tRetN, tDrop, tB, tAnd, tOr, tNot, tAndV, tOrV, tNotV, tIf, tCB, tCons, tNil, tNext, tCall, tBM, tTup, tLst, rU, rInW, rNinW, Int.reduceNeg, tG, tG2, sP, tFldC, sFldC, tProp, tMeth, tMake, rOwnC, rLenO, rIsC, rNoT, tAddT, tSAddK, rSAddK, rSInK, rSet0K, rSet0T, rMinS, rMaxS, rSortedQ, rSortedT, rEqD, rNeD, rIxD, dcL_eq, dcZ_eq, lcO_eq, forE_eq, forT_eq, lcS_eq, ItX.rIterN, iOwn, List.append_nil, tDisp, tPairs, tCallS, tCallSD, tCallT, StX.tStar, tCallK, tCallKS, rTupOf, tDrop, rI0, rI, rEq, rNe, scal, forR_eq, forR2_eq, forS_eq, forL_eq, lcT_eq, lcRT_eq, lcS_eq, rLenX, rLenS, rListOf, tRevL, rMulS, rRepL, rCatL, rSumN, rMaxN, tBM0, rPop, tAug, ipI,  tPart, tNoPart, CwR.tReplC, rAllK, rInSg, rNinSg, sgn_inj, rAddS, rInSt, tChain, tM1, tM0, rSplitN, rJoinN, exists_eq, rIntI, rIntB, rIntS, rStrI, rAbs, rOrd, rMin, rMax, rIxL, rIxX, rSetL, rAppend, rIxS, rSlS, rSlL, tSl, List.map_cons, List.map_nil, List.replicate_succ, List.replicate_zero, List.length_cons, List.length_nil, Nat.reduceSub, Nat.reduceAdd, Nat.zero_add, Nat.sub_self, List.getElem?_cons_zero, List.getElem?_cons_succ, List.set_cons_zero, List.set_cons_succ, List.append_nil, List.nil_append, List.cons_append, Option.some.injEq, not_true_eq_false, reduceCtorEq, exists_eq_left', exists_eq_left, exists_eq', exists_and_left, exists_and_right, V.int.injEq, V.str.injEq, V.bl.injEq, V.ref.injEq, List.cons.injEq, and_true, true_and, and_assoc, decide_eq_true_eq, Bool.not_eq_true', decide_eq_false_iff_not, ite_true, ite_false, if_true, if_false, Bool.not_true, Bool.not_false, Bool.false_eq_true, eq_self_iff_true, reduceIte, ne_eq, Int.reduceEq, not_false_eq_true])
local macro_rules | `(tactic| walk_at "rt") => `(tactic| try walk_at "rd")
local macro_rules | `(tactic| walk_at "st") => `(tactic| (walk_at "rt"; refine r_seq ?_; walk_at "rt"))
local macro_rules | `(tactic| walk_at "hp") => `(tactic| first | assumption | exact upd_same | (rw [upd_ne (by assumption)]; walk_at "hp"))
local macro_rules | `(tactic| walk_at "ex1") => `(tactic| ((with_reducible refine Exists.intro ?w (And.intro ?hx ?_)); (case hx => first | exact sq_of (by walk_at "hp") | exact .inl (sq_of (by walk_at "hp")) | exact rfl | (show _ = some (HO.lst _); walk_at "hp"))))
local macro_rules | `(tactic| walk_at "ex") => `(tactic| repeat (first | walk_at "ex1" | walk_at "rd"))
abbrev s_odd : Stmt := topS 74
theorem sc_odd : FnScope ["store", "places", "kind", "odd"] ["store", "places"] (defScope s_odd) := ⟨rfl, rfl, rfl, by decide +kernel, rfl, by decide +kernel, by decide +kernel⟩

/-- a short text that is none of these -/
def spOdd : Sp := fun vs H Q _ => ∃ (a c p : Addr) (ws : List Str), vs = [.ref a, .ref p] ∧ StoreAt H a c ∧ H p = some (.lst (ws.map V.str)) ∧ ws ≠ [] ∧ ws.length < 60 ∧ (∀ z ∈ ws, nm (tl z)) ∧ Drawn H a c (fun v => ∃ z : Str, v = .str z ∧ z ∉ ws ∧ z.length ≤ 60 ∧ PyData.strOk z = true) Q
def spWithOdd : Sp := fun vs H Q _ => ∃ (a c p r : Addr) (ws zs : List Str), vs = [.ref a, .ref p, .ref r] ∧ StoreAt H a c ∧ H p = some (.lst (ws.map V.str)) ∧ H r = some (.lst (zs.map V.str)) ∧ ws ≠ [] ∧ ws.length < 60 ∧ (∀ z ∈ ws, nm (tl z)) ∧ zs.length ≤ 90 ∧ (∀ z ∈ zs, z.length ≤ 60) ∧
  ∀ q ys H', StoreAt H' a c → But a H H' → H q = none → H' q = some (.lst ((ys : List Str).map V.str)) → (∃ y ∈ ys, y ∉ ws) → (∀ y ∈ ys, y.length ≤ 60) → ys.length ≤ zs.length + 2 → Q (.ref q) H'
theorem atI_lastO (xs : List V) (y : V) : atI (xs ++ [y]) (-1) = some y := by
  unfold atI ixN
  rw [List.length_append]
  simp
  rw [if_pos (by omega), show (-1 + ((xs.length : Int) + 1)).toNat = xs.length by omega]
  simp
section
variable {P : Program} {w : World} {K : PySem.W.Frag} {mg : Str → Option Value} {base : Heap}
theorem ok_odd {f f_take f_stranger f_badname f_pick : Addr} {fd fd_take fd_stranger fd_badname fd_pick : FuncData} (B : Bi mg) (D : Dn K mg "_law_odd" s_odd ["store", "places"] f fd) (D_take : Dn K mg "_law_take" s_take ["store", "many"] f_take fd_take) (D_stranger : Dn K mg "_law_stranger" s_stranger ["store", "taken"] f_stranger fd_stranger) (D_badname : Dn K mg "_law_bad_name" s_badname ["store"] f_badname fd_badname) (D_pick : Dn K mg "_law_pick" s_pick ["store", "row"] f_pick fd_pick)
    (G_take : FnOk P w K mg base CX0 2 f_take fd_take ["store", "many"] spTake) (G_stranger : FnOk P w K mg base CX0 6 f_stranger fd_stranger ["store", "taken"] spStranger) (G_badname : FnOk P w K mg base CX0 6 f_badname fd_badname ["store"] spBadName) (G_pickL : FnOk P w K mg base CX0 3 f_pick fd_pick ["store", "row"] spPickL) : FnOk P w K mg base CX0 7 f fd ["store", "places"] spOdd := by
  refine D.F.ok sc_odd (fun vs H Q E h => ?_) (fun cdv A outer s H vs Q E hr h => ?_)
  · obtain ⟨a, c, p, ws, rfl, _⟩ := h
    rfl
  · obtain ⟨a, c, p, ws, rfl, S0, hp, hne, hl, hnm, q⟩ := h
    refine ⟨_, (pss_cons (ps_set (i := 2) sc_odd.nd rfl (.inl rfl) (pe_call G_take (hr.mono (by omega)) (by rfl) D_take.g D_take.F.kp D_take.b .nil pass0 (pa_cons (pv 0) (pa_cons pe_int pa_nil))))
      (pss_cons (ps_if (pt_cmpR op_eq (pv 2) pe_int (nomark _)) (pss_one (ps_ret (pe_call G_stranger (hr.mono (by omega)) (by rfl) D_stranger.g D_stranger.F.kp D_stranger.b .nil pass0 (pa_cons (pv 0) (pa_cons (pv 1) pa_nil))))) pss_nil)
      (pss_cons (ps_if (pt_cmpR op_eq (pv 2) pe_int (nomark _)) (pss_one (ps_ret (pe_call G_badname (hr.mono (by omega)) (by rfl) D_badname.g D_badname.F.kp D_badname.b .nil pass0 (pa_cons (pv 0) pa_nil)))) pss_nil)
      (pss_cons (ps_set (i := 3) sc_odd.nd rfl (.inl rfl) (pe_lst (pa_cons pe_str (pa_cons pe_str (pa_cons (pe_op op_addS (pe_ix (ix_listK (K := K)) (pv 1) pe_int (fun _ _ => rfl)) pe_str) (pa_cons (pe_op op_addS pe_str (pe_ix (ix_listK (K := K)) (pv 1) (pe_un un_neg pe_int) (fun _ _ => rfl))) (pa_cons (pe_op op_addS (pe_op op_addS (pe_ix (ix_listK (K := K)) (pv 1) pe_int (fun _ _ => rfl)) pe_str) (pe_ix (ix_listK (K := K)) (pv 1) (pe_un un_neg pe_int) (fun _ _ => rfl))) (pa_cons (pe_op op_addS (pe_ix (ix_listK (K := K)) (pv 1) pe_int (fun _ _ => rfl)) pe_str) pa_nil))))))))
      (pss_one (ps_ret (pe_call G_pickL (hr.mono (by omega)) (by rfl) D_pick.g D_pick.F.kp D_pick.b .nil pass0 (pa_cons (pv 0) (pa_cons (pv 3) pa_nil))))))))), ?_⟩
    have bad : ∀ z : Str, ¬ nm (tl z) → z ∉ ws := fun z h m => h (hnm z m)
    walk_at "st"
    refine ⟨a, c, _, rfl, S0, by decide, fun v H1 S1 b1 ⟨kind, e, k0, k1⟩ => ?_⟩
    subst e
    have hp1 := b1 _ _ (S0.nS hp) hp
    walk_at "st"
    refine ite2 (fun _ => ⟨a, c, p, ws, rfl, S1, hp1, hl, hnm, fun v H2 S2 b2 ⟨z, e, h1, h2⟩ => q v H2 S2 (b1.trans b2) ⟨z, e, h2, by have := okd_len (.inr h1); rw [len_tl]; omega, low_ok.mpr (low_nm h1)⟩⟩) (fun _ => ?_)
    walk_at "st"
    refine ite2 (fun _ => ⟨a, c, rfl, S1, fun v H2 S2 b2 ⟨z, e, h1, h2, h3⟩ => q v H2 S2 (b1.trans b2) ⟨z, e, bad z h1, h2, h3⟩⟩) (fun _ => ?_)
    have hpos := List.length_pos_iff.mpr hne
    have g0 := List.getElem?_eq_getElem hpos
    generalize hx : ws[0] = x at g0
    have x1 := hnm x (List.mem_of_getElem? g0)
    have xl := okd_len (.inr x1)
    obtain ⟨y, hy⟩ : ∃ y, ws.getLast? = some y := by
      cases e : ws.getLast? with
      | none => exact absurd (List.getLast?_eq_none_iff.mp e) hne
      | some y => exact ⟨y, rfl⟩
    have y1 := hnm y (List.mem_of_getLast? hy)
    have yl := okd_len (.inr y1)
    have a0 : atI (ws.map V.str) 0 = some (.str x) := atI_nat (j := 0) (by rw [List.getElem?_map, g0]; rfl)
    have al : atI (ws.map V.str) (-1) = some (.str y) := by
      obtain ⟨us, e⟩ := List.getLast?_eq_some_iff.mp hy
      rw [e, List.map_append]
      exact atI_lastO _ _
    have hs := sq_of (K := K) hp1
    have sp1 : Str.ofString " " = S [32] := by decide +kernel
    have nl1 : Str.ofString "\n" = S [10] := by decide +kernel
    have da1 : Str.ofString "-" = S [45] := by decide +kernel
    have xe : x = S (tl x) := (S_tl x).symm
    have ye : y = S (tl y) := (S_tl y).symm
    generalize tl x = lx at xe x1 xl
    generalize tl y = ly at ye y1 yl
    subst xe ye
    walk_at "st"
    refine ⟨_, hs, _, a0, _, rfl, ?_, _, hs, _, al, _, rfl, ?_, _, hs, _, a0, _, rfl, ?_, _, hs, _, al, _, rfl, ?_, _, hs, _, a0, _, rfl, ?_, by rw [PySem.sizeLine_eq]; decide, fun t nt => ?_⟩
    · simp only [sp1, S_len, List.length_singleton]
      exact line_of (by omega)
    · simp only [nl1, S_len, List.length_singleton]
      exact line_of (by omega)
    · simp only [sp1, S_len, List.length_singleton]
      exact line_of (by omega)
    · simp only [sp1, S_app, S_len, List.length_append, List.length_singleton]
      exact line_of (by omega)
    · simp only [da1, S_len, List.length_singleton]
      exact line_of (by omega)
    simp only [sp1, nl1, da1, S_emp, S_app]
    have kt := Keeps.new (x := .lst [.str (S []), .str (S [45]), .str (S (lx ++ [32])), .str (S ([10] ++ ly)), .str (S (lx ++ [32] ++ ly)), .str (S (lx ++ [45]))]) nt
    walk_at "rt"
    refine ⟨a, c, t, _, rfl, S1.new nt, upd_same, S1.ne1 nt, by simp, by simp, fun v H2 S2 b2 hv => ?_⟩
    have done : ∀ l : List Nat, v = .str (S l) → ¬ nm l → l.length ≤ 60 → Low l → Q v H2 := fun l e h1 h2 h3 => q v H2 S2 ((b1.trans (Keeps.but kt)).trans b2) ⟨S l, e, bad _ (by rw [tl_S]; exact h1), by rw [S_len]; exact h2, low_ok.mpr (by rw [tl_S]; exact h3)⟩
    have Lx := low_nm x1
    have Ly := low_nm y1
    simp only [List.mem_cons, List.not_mem_nil, or_false] at hv
    have no : ∀ {l : List Nat} (c : Nat), c ∈ l → c = 32 ∨ c = 10 ∨ c = 45 → ¬ nm l := fun c hc h => nm_has hc (by unfold lod; omega)
    rcases hv with e | e | e | e | e | e
    · exact done _ e (fun h => h) (by simp) low_nil
    · exact done _ e (no 45 (by simp) (by omega)) (by simp) (by decide)
    · exact done _ e (no 32 (by simp) (by omega)) (by simp; omega) (low_app (b := [32]) Lx (by decide))
    · exact done _ e (no 10 (by simp) (by omega)) (by simp; omega) (low_app (a := [10]) (by decide) Ly)
    · exact done _ e (no 32 (by simp) (by omega)) (by simp; omega) (low_app (low_app (b := [32]) Lx (by decide)) Ly)
    · exact done _ e (no 45 (by simp) (by omega)) (by simp; omega) (low_app Lx (by decide))
end
end K01
namespace K01
open PySem PySem.Spec PyProof.Rows L2 TL HotExc Tw WX
local macro_rules | `(tactic| walk_at "rd") => `(tactic| simp only [start1, wipe, isR, isBool, isInt, isStr, isLst, isTup, tAsg, gName, gSub, tVar, tC, tOp, tUn, tTest, tIfS, tRet, tRetN, tDrop, tB, tAnd, tOr, tNot, tAndV, tOrV, tNotV, tIf, tCB, tCons, tNil, tNext, tCall, tBM, tTup, tLst, rU, rInW, rNinW, Int.reduceNeg, tG, tG2, sP, tFldC, sFldC, tProp, tMeth, tMake, rOwnC, rLenO, rIsC, rNoT, tAddT, tSAddK, rSAddK, rSInK, rSet0K, rSet0T, rMinS, rMaxS, rSortedQ, rSortedT, rEqD, rNeD, rIxD, dcL_eq, dcZ_eq, lcO_eq, forE_eq, forT_eq, lcS_eq, ItX.rIterN, iOwn, List.append_nil, tDisp, tPairs, tCallS, tCallSD, tCallT, StX.tStar, tCallK, tCallKS, rTupOf, tDrop, rI0, rI, rEq, rNe, scal, forR_eq, forR2_eq, forS_eq, forL_eq, lcT_eq, lcRT_eq, lcS_eq, rLenX, rLenS, rListOf, tRevL, rMulS, rRepL, rCatL, rSumN, rMaxN, tBM0, rPop, tAug, ipI,  tPart, tNoPart, CwR.tReplC, rAllK, rInSg, rNinSg, sgn_inj, rAddS, rInSt, tChain, tM1, tM0, rSplitN, rJoinN, exists_eq, rIntI, rIntB, rIntS, rStrI, rAbs, rOrd, rMin, rMax, rIxL, rIxX, rSetL, rAppend, rIxS, rSlS, rSlL, tSl, List.map_cons, List.map_nil, List.replicate_succ, List.replicate_zero, List.length_cons, List.length_nil, Nat.reduceSub, Nat.reduceAdd, Nat.zero_add, Nat.sub_self, List.getElem?_cons_zero, List.getElem?_cons_succ, List.set_cons_zero, List.set_cons_succ, List.append_nil, List.nil_append, List.cons_append, Option.some.injEq, not_true_eq_false, reduceCtorEq, exists_eq_left', exists_eq_left, exists_eq', exists_and_left, exists_and_right, V.int.injEq, V.str.injEq, V.bl.injEq, V.ref.injEq, List.cons.injEq, and_true, true_and, and_assoc, decide_eq_true_eq, Bool.not_eq_true', decide_eq_false_iff_not, ite_true, ite_false, if_true, if_false, Bool.not_true, Bool.not_false, Bool.false_eq_true, eq_self_iff_true, reduceIte, ne_eq, Int.reduceEq, not_false_eq_true])
local macro_rules | `(tactic| walk_at "rt") => `(tactic| try walk_at "rd")
local macro_rules | `(tactic| walk_at "st") => `(tactic| (walk_at "rt"; refine r_seq ?_; walk_at "rt"))
local macro_rules | `(tactic| walk_at "hp") => `(tactic| first | assumption | exact upd_same | (rw [upd_ne (by assumption)]; walk_at "hp"))
local macro_rules | `(tactic| walk_at "ex1") => `(tactic| ((with_reducible refine Exists.intro ?w (And.intro ?hx ?_)); (case hx => first | exact sq_of (by walk_at "hp") | exact .inl (sq_of (by walk_at "hp")) | exact rfl | (show _ = some (HO.lst _); walk_at "hp"))))
local macro_rules | `(tactic| walk_at "ex") => `(tactic| repeat (first | walk_at "ex1" | walk_at "rd"))



/-! ### a comprehension in a comprehension -/
def rl (scope sc : Scope) : Scope := { scope with names := scope.names.map fun (n, k) => if (k == .free && sc.kind == .function && sc.names.lookup n == some .cell) then (n, .cell) else (n, k) }
theorem blk_nest {N : List Str} {own : List (Str × Nat)} {inner outer sc : Scope} {env : Env} (e : env.scope = sc) (h : blkC N (rl outer sc) inner own = true) : blkC N (relabel outer env) inner own = true := by
  subst e
  exact h
theorem call_anyK {X : Cx} {K : PySem.W.Frag} (h : X.K = K := by rfl) (hc : X.calm = true := by rfl) : CallR X (.builtin "any") (fun vs H Q => ∃ a, vs = [V.ref a] ∧ ∃ bs : List Bool, SqL K H a (bs.map V.bl) ∧ Q (.bl (bs.any id)) H) := callR_mono (h ▸ cr_any hc) fun _ _ _ ⟨a, e, bs, h1, q⟩ => ⟨a, bs, e, h1, q⟩
/-- the places outside of a row that are tied to one of it -/
def bord (Ps : List Str) (T : List (Str × Str)) (ws : List Str) : List Str := Ps.filter fun x => decide (x ∉ ws) && (sortS (nears T x)).any fun y => decide (y ∈ ws)
theorem filter_snoc {α : Type} {p : α → Bool} {l : List α} {i : Nat} {x : α} (h : l[i]? = some x) : (l.take (i + 1)).filter p = (l.take i).filter p ++ if p x = true then [x] else [] := by
  rw [take_snoc h, List.filter_append]
  by_cases e : p x = true
  · rw [if_pos e]
    simp [e]
  · rw [if_neg e]
    simp [e]
def spWeb : Sp := fun vs H Q _ => ∃ (a c : Addr) (lo hi : Int), vs = [.ref a, .int lo, .int hi] ∧ StoreAt H a c ∧ 1 ≤ lo ∧ lo ≤ hi ∧ hi ≤ 20 ∧ ∀ r Ps T H', StoreAt H' a c → But a H H' → H r = none → LW H' r Ps T → Wok Ps T → Q (.ref r) H'
def spBorder : Sp := fun vs H Q _ => ∃ (r p : Addr) (Ps : List Str) (T : List (Str × Str)) (ws : List Str), vs = [.ref r, .ref p] ∧ LW H r Ps T ∧ Ps.length ≤ 20 ∧ T.length ≤ 60 ∧ H p = some (.lst (ws.map V.str)) ∧ ∀ q H', Keeps H H' → H q = none → H' q = some (.lst ((bord Ps T ws).map V.str)) → Q (.ref q) H'
def spWithin : Sp := fun vs H Q _ => ∃ (a c r : Addr) (Ps : List Str) (T : List (Str × Str)), vs = [.ref a, .ref r] ∧ StoreAt H a c ∧ LW H r Ps T ∧ Ps.length ≤ 20 ∧ T.length ≤ 60 ∧
  ∀ q ys H', StoreAt H' a c → But a H H' → H q = none → H' q = some (.lst ((ys : List Str).map V.str)) → (∀ y ∈ ys, y ∈ Ps) → ys.length ≤ 60 → Q (.ref q) H'
section
variable {P : Program} {w : World} {K : PySem.W.Frag} {mg : Str → Option Value} {base : Heap}
end
end K01
namespace K01
open PySem PySem.Spec PyProof.Rows L2 TL HotExc Tw WX
/-! ### distances in a set of places -/
def Nbr (T : List (Str × Str)) (x y : Str) : Prop := (x, y) ∈ T ∨ (y, x) ∈ T
/-- a walk of n steps from s to x, all of it in W -/
def Rch (T : List (Str × Str)) (W : List Str) (s : Str) : Nat → Str → Prop
  | 0, x => x = s ∧ s ∈ W
  | n + 1, x => x ∈ W ∧ ∃ y, Rch T W s n y ∧ Nbr T y x
def Dst (T : List (Str × Str)) (W : List Str) (s x : Str) (n : Nat) : Prop := Rch T W s n x ∧ ∀ m, Rch T W s m x → n ≤ m
section
variable {T : List (Str × Str)} {W : List Str} {s : Str}
theorem Rch.mem : ∀ {n : Nat} {x : Str}, Rch T W s n x → x ∈ W
  | 0, _, h => h.1 ▸ h.2
  | _ + 1, _, h => h.1
theorem Dst.uniq {x : Str} {n m : Nat} (h : Dst T W s x n) (g : Dst T W s x m) : n = m := Nat.le_antisymm (h.2 _ g.1) (g.2 _ h.1)
theorem Rch.dst {x : Str} : ∀ {n : Nat}, Rch T W s n x → ∃ m, m ≤ n ∧ Dst T W s x m := by
  intro n
  induction n using Nat.strongRecOn with
  | ind n ih =>
    intro h
    by_cases e : ∃ m, m < n ∧ Rch T W s m x
    · obtain ⟨m, hm, g⟩ := e
      obtain ⟨k, hk, d⟩ := ih m hm g
      exact ⟨k, by omega, d⟩
    · exact ⟨n, Nat.le_refl _, h, fun m g => by
        apply Classical.byContradiction
        intro z
        exact e ⟨m, by omega, g⟩⟩
theorem Dst.pred {x : Str} {n : Nat} (h : Dst T W s x (n + 1)) : ∃ y, Dst T W s y n ∧ Nbr T y x := by
  obtain ⟨⟨hx, y, hy, hn⟩, hl⟩ := h
  obtain ⟨m, hm, d⟩ := hy.dst
  have := hl (m + 1) ⟨hx, y, d.1, hn⟩
  have : m = n := by omega
  subst this
  exact ⟨y, d, hn⟩
theorem Dst.row : ∀ {n : Nat} {x : Str}, Dst T W s x n → ∃ L : List Str, L.Nodup ∧ L.length = n + 1 ∧ ∀ y ∈ L, y ∈ W ∧ ∃ m, m ≤ n ∧ Dst T W s y m
  | 0, x, h => ⟨[x], by simp, rfl, fun y hy => by
      rw [List.mem_singleton.mp hy]
      exact ⟨h.1.mem, 0, Nat.le_refl _, h⟩⟩
  | n + 1, x, h => by
    obtain ⟨y, hy, _⟩ := h.pred
    obtain ⟨L, h1, h2, h3⟩ := Dst.row hy
    refine ⟨x :: L, List.nodup_cons.mpr ⟨fun hx => ?_, h1⟩, by rw [List.length_cons, h2], fun z hz => ?_⟩
    · obtain ⟨_, m, hm, d⟩ := h3 x hx
      have := d.uniq h
      omega
    · rcases List.mem_cons.mp hz with rfl | hz
      · exact ⟨h.1.mem, n + 1, Nat.le_refl _, h⟩
      · obtain ⟨a, m, hm, d⟩ := h3 z hz
        exact ⟨a, m, by omega, d⟩
theorem Dst.short {Ps : List Str} (hW : ∀ x ∈ W, x ∈ Ps) {n : Nat} {x : Str} (h : Dst T W s x n) : n < Ps.length := by
  obtain ⟨L, h1, h2, h3⟩ := h.row
  have := nd_len L Ps h1 fun y hy => hW y (h3 y hy).1
  omega
/-- a table of walks -/
def Sound (T : List (Str × Str)) (W : List Str) (s : Str) (d : Str → Option Nat) : Prop := ∀ x v, d x = some v → Rch T W s v x
/-- up to n steps nothing is missing, nothing too long -/
def Upto (T : List (Str × Str)) (W : List Str) (s : Str) (d : Str → Option Nat) (n : Nat) : Prop := ∀ m x, m ≤ n → Rch T W s m x → ∃ u, d x = some u ∧ u ≤ m
def Exact (T : List (Str × Str)) (W : List Str) (s : Str) (d : Str → Option Nat) : Prop := ∀ x v, d x = some v ↔ Dst T W s x v
theorem Exact.of {d : Str → Option Nat} (hs : Sound T W s d) (hu : ∀ n, Upto T W s d n) : Exact T W s d := fun x v => by
  constructor
  · intro h
    refine ⟨hs x v h, fun m hm => ?_⟩
    obtain ⟨u, e, hle⟩ := hu m m x (Nat.le_refl _) hm
    rw [h] at e
    cases e
    exact hle
  · intro h
    obtain ⟨u, e, hle⟩ := hu v v x (Nat.le_refl _) h.1
    have := h.2 u (hs x u e)
    have : u = v := by omega
    rw [← this]
    exact e
/-- nothing is missing when no tie leads on -/
theorem Upto.stable {d : Str → Option Nat} (h0 : s ∈ W → d s = some 0) (hst : ∀ x v y, d x = some v → Nbr T x y → y ∈ W → ∃ u, d y = some u ∧ u ≤ v + 1) : ∀ n, Upto T W s d n := by
  have key : ∀ (m : Nat) (x : Str), Rch T W s m x → ∃ u, d x = some u ∧ u ≤ m := by
    intro m
    induction m with
    | zero =>
      rintro x ⟨rfl, hw⟩
      exact ⟨0, h0 hw, Nat.le_refl _⟩
    | succ m ih =>
      rintro x ⟨hx, y, hy, hn⟩
      obtain ⟨u, e, hu⟩ := ih y hy
      obtain ⟨v, e2, hv⟩ := hst y u x e hn hx
      exact ⟨v, e2, by omega⟩
  exact fun n m x _ h => key m x h
/-- nothing is missing after as many rounds as there are places -/
theorem Upto.all {d : Str → Option Nat} {Ps : List Str} (hW : ∀ x ∈ W, x ∈ Ps) (hu : Upto T W s d Ps.length) : ∀ n, Upto T W s d n := by
  intro n m x _ h
  obtain ⟨k, hk, D⟩ := h.dst
  have := D.short hW
  obtain ⟨u, e, hle⟩ := hu k x (by omega) D.1
  exact ⟨u, e, by omega⟩
theorem Exact.same {d e : Str → Option Nat} (h : Exact T W s d) (g : Exact T W s e) (x : Str) : d x = e x := by
  cases hd : d x with
  | none =>
    cases he : e x with
    | none => rfl
    | some v => rw [(h x v).mpr ((g x v).mp he)] at hd; cases hd
  | some v => exact ((g x v).mpr ((h x v).mp hd)).symm
end
end K01
namespace K01
open PySem PySem.Spec PyProof.Rows L2 TL HotExc Tw WX
/-! ### one round of drawing nearer -/
def setD (d : Str → Option Nat) (y : Str) (v : Nat) : Str → Option Nat := fun x => if x = y then some v else d x
/-- e tells no more of any place than d does, and of as many -/
def Near (d e : Str → Option Nat) : Prop := ∀ x v, d x = some v → ∃ u, e x = some u ∧ u ≤ v
theorem Near.refl (d : Str → Option Nat) : Near d d := fun x v h => ⟨v, h, Nat.le_refl _⟩
theorem Near.trans {a b c : Str → Option Nat} (h : Near a b) (g : Near b c) : Near a c := fun x v e => by
  obtain ⟨u, e1, h1⟩ := h x v e
  obtain ⟨w, e2, h2⟩ := g x u e1
  exact ⟨w, e2, by omega⟩
structure Rel (T : List (Str × Str)) (W : List Str) (s : Str) (d : Str → Option Nat) : Prop where
  so : Sound T W s d
  st : s ∈ W → d s = some 0
theorem Near.set {d : Str → Option Nat} {y : Str} {v : Nat} (h : d y = none ∨ ∃ u, d y = some u ∧ v < u) : Near d (setD d y v) := fun x u e => by
  unfold setD
  by_cases z : x = y
  · subst z
    rw [if_pos rfl]
    rcases h with h | ⟨u', h, hl⟩
    · rw [h] at e; cases e
    · rw [h] at e
      cases e
      exact ⟨v, rfl, by omega⟩
  · rw [if_neg z]
    exact ⟨u, e, Nat.le_refl _⟩
theorem Rel.set {T : List (Str × Str)} {W : List Str} {s x y : Str} {d : Str → Option Nat} {v : Nat} (R : Rel T W s d) (hx : d x = some v) (hn : Nbr T x y) (hy : y ∈ W) (h : d y = none ∨ ∃ u, d y = some u ∧ v + 1 < u) : Rel T W s (setD d y (v + 1)) := by
  refine ⟨fun z u e => ?_, fun hs => ?_⟩
  · unfold setD at e
    by_cases c : z = y
    · rw [if_pos c] at e
      cases e
      rw [c]
      exact ⟨hy, x, R.so x v hx, hn⟩
    · rw [if_neg c] at e
      exact R.so z u e
  · unfold setD
    have h0 := R.st hs
    by_cases c : s = y
    · subst c
      rw [h0] at h
      rcases h with h | ⟨u, h, hl⟩
      · cases h
      · cases h
        omega
    · rw [if_neg c]
      exact h0
/-- the pair x, y has been looked at in this round, which began with d0 -/
def Seen (W : List Str) (d0 d : Str → Option Nat) (x y : Str) : Prop := ∀ v, d0 x = some v → y ∈ W → ∃ u, d y = some u ∧ u ≤ v + 1
theorem Seen.near {W : List Str} {d0 d e : Str → Option Nat} {x y : Str} (h : Seen W d0 d x y) (g : Near d e) : Seen W d0 e x y := fun v h0 hy => by
  obtain ⟨u, e1, h1⟩ := h v h0 hy
  obtain ⟨w, e2, h2⟩ := g y u e1
  exact ⟨w, e2, by omega⟩
theorem Upto.next {T : List (Str × Str)} {W : List Str} {s : Str} {d0 d : Str → Option Nat} {n : Nat} (h : Upto T W s d0 n) (g : Near d0 d) (hs : ∀ x y, Nbr T x y → Seen W d0 d x y) : Upto T W s d (n + 1) := by
  intro m x hm hr
  by_cases c : m ≤ n
  · obtain ⟨u, e, hu⟩ := h m x c hr
    obtain ⟨w, e2, h2⟩ := g x u e
    exact ⟨w, e2, by omega⟩
  · have : m = n + 1 := by omega
    subst this
    obtain ⟨hx, y, hy, hn⟩ := hr
    obtain ⟨u, e, hu⟩ := h n y (Nat.le_refl _) hy
    obtain ⟨w, e2, h2⟩ := hs y x hn u e hx
    exact ⟨w, e2, by omega⟩
theorem Upto.zero {T : List (Str × Str)} {W : List Str} {s : Str} {d : Str → Option Nat} (R : Rel T W s d) : Upto T W s d 0 := by
  intro m x hm hr
  have : m = 0 := by omega
  subst this
  obtain ⟨rfl, hw⟩ := hr
  exact ⟨0, R.st hw, Nat.le_refl _⟩
/-- a round that changes nothing -/
theorem Exact.still {T : List (Str × Str)} {W : List Str} {s : Str} {d : Str → Option Nat} (R : Rel T W s d) (hs : ∀ x y, Nbr T x y → Seen W d d x y) : Exact T W s d := Exact.of R.so (Upto.stable R.st fun x v y h hn hy => hs x y hn v h hy)
def TabD (kvs : List (Key × V)) (d : Str → Option Nat) : Prop := ∀ x, valV kvs (Sum.inr x) = (d x).map fun n : Nat => V.int (n : Int)
theorem TabD.put {kvs : List (Key × V)} {d : Str → Option Nat} (h : TabD kvs d) (y : Str) (v : Nat) : TabD (putK kvs (Sum.inr y) (.int v)) (setD d y v) := fun x => by
  rw [valV_put]
  unfold setD
  by_cases c : x = y
  · rw [if_pos (by rw [c]), if_pos c]
    rfl
  · rw [if_neg (fun z => c (Sum.inr.inj z)), if_neg c]
    exact h x
end K01
namespace K01
open PySem PySem.Spec PyProof.Rows L2 TL HotExc Tw WX
/-! ### a search in breadth -/
theorem setD_ne {d : Str → Option Nat} {x y : Str} {v : Nat} (h : x ≠ y) : setD d y v x = d x := if_neg h
theorem setD_eq {d : Str → Option Nat} {y : Str} {v : Nat} : setD d y v y = some v := if_pos rfl
structure Bfs (T : List (Str × Str)) (W : List Str) (s : Str) (d : Str → Option Nat) (q : List Str) (at_ : Nat) : Prop where
  rel : Rel T W s d
  key : ∀ x v, d x = some v → x ∈ q
  val : ∀ x, x ∈ q → ∃ v, d x = some v
  nd : q.Nodup
  ord : ∀ (i j : Nat) x y u v, i ≤ j → q[i]? = some x → q[j]? = some y → d x = some u → d y = some v → u ≤ v
  spr : ∀ x u, q[at_]? = some x → d x = some u → ∀ y v, d y = some v → v ≤ u + 1
  don : ∀ (i : Nat) x v, i < at_ → q[i]? = some x → d x = some v → ∀ y, Nbr T x y → y ∈ W → ∃ u, d y = some u ∧ u ≤ v + 1
section
variable {T : List (Str × Str)} {W : List Str} {s : Str}
theorem get_snoc {α : Type} {l : List α} {a x : α} {i : Nat} (h : (l ++ [a])[i]? = some x) : (i < l.length ∧ l[i]? = some x) ∨ (i = l.length ∧ x = a) := by
  by_cases hi : i < l.length
  · rw [List.getElem?_append_left hi] at h
    exact .inl ⟨hi, h⟩
  · have hl := lt_of_get h
    rw [List.length_append, List.length_singleton] at hl
    have : i = l.length := by omega
    subst this
    rw [List.getElem?_append_right (Nat.le_refl _), Nat.sub_self] at h
    cases h
    exact .inr ⟨rfl, rfl⟩
theorem Bfs.start (hs : s ∈ W) : Bfs T W s (setD (fun _ => none) s 0) [s] 0 := by
  have e : ∀ x v, setD (fun _ => none) s 0 x = some v → x = s ∧ v = 0 := fun x v h => by
    unfold setD at h
    by_cases c : x = s
    · rw [if_pos c] at h
      cases h
      exact ⟨c, rfl⟩
    · rw [if_neg c] at h
      cases h
  refine ⟨⟨fun x v h => ?_, fun _ => setD_eq⟩, fun x v h => ?_, fun x h => ⟨0, ?_⟩, by simp, fun i j x y u v _ _ _ h1 h2 => ?_, fun x u _ h1 y v h2 => ?_, fun i x v h => absurd h (Nat.not_lt_zero _)⟩
  · obtain ⟨rfl, rfl⟩ := e x v h
    exact ⟨rfl, hs⟩
  · rw [(e x v h).1]
    exact List.mem_singleton.mpr rfl
  · rw [List.mem_singleton.mp h]
    exact setD_eq
  · have := (e x u h1).2
    omega
  · have := (e y v h2).2
    omega
theorem Bfs.add {d : Str → Option Nat} {q : List Str} {n u : Nat} {x y : Str} (B : Bfs T W s d q n) (hx : q[n]? = some x) (hu : d x = some u) (hn : Nbr T x y) (hy : y ∈ W) (h : d y = none) : Bfs T W s (setD d y (u + 1)) (q ++ [y]) n := by
  have hnq : y ∉ q := fun z => by
    obtain ⟨v, e⟩ := B.val y z
    rw [h] at e
    cases e
  have ne : ∀ z, z ∈ q → z ≠ y := fun z hz e => hnq (e ▸ hz)
  have hnl := lt_of_get hx
  have q0 : ∀ (i : Nat) z, i < q.length → (q ++ [y])[i]? = some z → q[i]? = some z ∧ z ≠ y := fun i z hi e => by
    rw [List.getElem?_append_left hi] at e
    exact ⟨e, ne z (List.mem_of_getElem? e)⟩
  have le : ∀ z w, setD d y (u + 1) z = some w → w ≤ u + 1 := fun z w e => by
    by_cases c : z = y
    · rw [c, setD_eq] at e
      cases e
      exact Nat.le_refl _
    · rw [setD_ne c] at e
      exact B.spr x u hx hu z w e
  refine ⟨B.rel.set hu hn hy (.inl h), fun z w e => ?_, fun z hz => ?_, List.nodup_append.mpr ⟨B.nd, by simp, fun a ha b hb e => hnq (by rw [List.mem_singleton.mp hb] at e; exact e ▸ ha)⟩, fun i j a b v w hij e1 e2 h1 h2 => ?_, fun z w e1 h1 a v h2 => ?_, fun i z w hi e1 h1 b hb hbW => ?_⟩
  · by_cases c : z = y
    · rw [c]
      exact List.mem_append_right _ List.mem_cons_self
    · rw [setD_ne c] at e
      exact List.mem_append_left _ (B.key z w e)
  · rcases List.mem_append.mp hz with hz | hz
    · rw [setD_ne (ne z hz)]
      exact B.val z hz
    · rw [List.mem_singleton.mp hz]
      exact ⟨_, setD_eq⟩
  · rcases get_snoc e2 with ⟨hj, e2⟩ | ⟨hj, rfl⟩
    · obtain ⟨e1, na⟩ := q0 i a (by omega) e1
      have nb := ne b (List.mem_of_getElem? e2)
      rw [setD_ne na] at h1
      rw [setD_ne nb] at h2
      exact B.ord i j a b v w hij e1 e2 h1 h2
    · rw [setD_eq] at h2
      cases h2
      exact le a v h1
  · obtain ⟨e1, nz⟩ := q0 n z hnl e1
    rw [hx] at e1
    cases e1
    rw [setD_ne nz, hu] at h1
    cases h1
    exact le a v h2
  · obtain ⟨e1, nz⟩ := q0 i z (by omega) e1
    rw [setD_ne nz] at h1
    obtain ⟨v, e, hv⟩ := B.don i z w hi e1 h1 b hb hbW
    have nb : b ≠ y := fun c => by rw [c, h] at e; cases e
    exact ⟨v, by rw [setD_ne nb]; exact e, hv⟩
theorem Bfs.next {d : Str → Option Nat} {q : List Str} {n u : Nat} {x : Str} (B : Bfs T W s d q n) (hx : q[n]? = some x) (hu : d x = some u) (hall : ∀ y, Nbr T x y → y ∈ W → ∃ w, d y = some w ∧ w ≤ u + 1) : Bfs T W s d q (n + 1) := by
  refine ⟨B.rel, B.key, B.val, B.nd, B.ord, fun z w e1 h1 a v h2 => ?_, fun i z w hi e1 h1 b hb hbW => ?_⟩
  · have := B.spr x u hx hu a v h2
    have := B.ord n (n + 1) x z u w (by omega) hx e1 hu h1
    omega
  · by_cases c : i = n
    · subst c
      rw [hx] at e1
      cases e1
      rw [hu] at h1
      cases h1
      exact hall b hb hbW
    · exact B.don i z w (by omega) e1 h1 b hb hbW
theorem Bfs.exact {d : Str → Option Nat} {q : List Str} {n : Nat} (B : Bfs T W s d q n) (h : q.length ≤ n) : Exact T W s d :=
  Exact.of B.rel.so (Upto.stable B.rel.st fun x v y hv hn hy => by
    obtain ⟨i, hi⟩ := List.mem_iff_getElem?.mp (B.key x v hv)
    exact B.don i x v (by have := lt_of_get hi; omega) hi hv y hn hy)
theorem Bfs.len {d : Str → Option Nat} {q : List Str} {n : Nat} (B : Bfs T W s d q n) : q.length ≤ W.length := nd_len q W B.nd fun x hx => by
  obtain ⟨v, e⟩ := B.val x hx
  exact (B.rel.so x v e).mem
theorem Exact.off (hs : s ∉ W) : Exact T W s (fun _ => none) := Exact.of (fun x v h => by cases h) (Upto.stable (fun h => absurd h hs) fun x v y h => by cases h)
/-- the near places of x are its neighbours -/
theorem nears_nbr (x y : Str) : y ∈ nears T x ↔ Nbr T x y := by
  unfold nears Nbr
  rw [List.mem_flatMap]
  constructor
  · rintro ⟨e, he, h⟩
    rcases List.mem_append.mp h with h | h
    · by_cases c : e.1 = x
      · rw [if_pos c] at h
        rw [List.mem_singleton.mp h, ← c]
        exact .inl he
      · rw [if_neg c] at h
        cases h
    · by_cases c : e.2 = x
      · rw [if_pos c] at h
        rw [List.mem_singleton.mp h, ← c]
        exact .inr he
      · rw [if_neg c] at h
        cases h
  · rintro (h | h)
    · exact ⟨(x, y), h, List.mem_append_left _ (by simp)⟩
    · exact ⟨(y, x), h, List.mem_append_right _ (by simp)⟩
end
end K01
/-! own methods that may raise; d.get(text) -/
namespace HotExc
open PySem PySem.Spec PyProof.Rows L2 L2H
def tMethP (C : Addr) (m : Str) (sp : Sp) (E : L2.St → XK) (ta : TE) (t : TA) : TE := fun σ H Q => ta σ H fun x H1 => ∃ a dx fs, x = .ref a ∧ H1 a = some (.ins C dx fs) ∧ fs.lookup m = none ∧ t σ H1 fun vs H2 => sp (x :: vs) H2 Q (E σ)
theorem pe_methP {X : Cx} {CX : CXT} {k : Nat} {C f : Addr} {fd : FuncData} {ps : List Str} {sp : Sp} {E : L2.St → XK} {o e : Expr} {es : List Expr} {m : Str} {apos pos : Pos} {ta : TE} {t : TA} {pl : Sem Bool} (he : PE X o ta) (c : Cls X.K C) (hm : Meth X.K C m f)
    (F : FnOk X.prog X.w X.K X.mg X.base CX k f fd ps sp) (hr : Room k X.A) (hb : Binds X.K fd ps []) (hx : ∀ σ, PassesAt CX X σ (E σ)) (ha : PA X (e :: es) t)
    (hst : starEach (e :: es) X.env = (false, eval e X.env) :: starEach es X.env := by rfl) (hpl : (backTo pos (starEach es X.env)).any (·.1) = false := by rfl)
    (ht : eval (.Call (.Attribute o m apos) (e :: es) [] pos) X.env = (do
      let ov ← eval o X.env
      standAt apos.atName
      let (f, first) ← holding [ov] (getMethod ov m pl)
      callWith pos f first (backTo pos (starEach (e :: es) X.env)) (backToKw pos (keywordEach [] X.env))) := by rfl) :
    PE X (.Call (.Attribute o m apos) (e :: es) [] pos) (tMethP C m sp E ta t) := by
  refine ⟨fun pins s σ H Q I h => PySem.W.methodCall_KW (pl := pl) (thn (he.run pins s σ H _ I h) fun u s1 got => ?_) ht⟩
  obtain ⟨x, H1, I1, rx, a, dx, fs, ex, ea, l, q⟩ := got
  subst ex
  obtain rfl : u = Value.ref a := rx
  refine getmeth_ok I1 ea c hm l (PySem.W.callWith_K (first := [.ref a]) (h₀ := X.base) I.ok.mod.kin hm.kp (thn (ha.run pos pins s1 σ H1 _ I1 q) fun us s2 got2 => ?_) hst hpl)
  obtain ⟨vs, H2, I2, r, q2⟩ := got2
  refine ⟨I2.kIn, ?_⟩
  have r2 : Vals (V.ref a :: vs) (Value.ref a :: us) := .cons rfl r
  have n : (Value.ref a :: us).length = ps.length := by rw [← r2.length]; exact F.len _ _ _ _ q2
  have b := hb s2 (Value.ref a :: us) I2.kIn (by rw [List.append_nil]; exact n)
  rw [List.append_nil] at b
  refine wpAny_call (codeAny_mono (F.run X.A X.stack s2 H2 ⟨Value.ref a :: us, []⟩ _ _ Q (E σ) hr I2.env0 b r2 q2) fun r s' hq => ?_)
  match r, hq with
  | .error e, hq => exact hx σ pins H2 s2 e s' I2 hq
  | .ok (.ret u), hq => exact I2.after hq
  | .ok .next, hq => exact hq.elim
  | .ok .brk, hq => exact hq.elim
  | .ok .cont, hq => exact hq.elim
def tG1 (td ty : TE) : TE := fun σ H Q => td σ H fun x H1 => ∃ a, x = .ref a ∧ ∃ kvs, H1 a = some (.dK kvs) ∧ ty σ H1 fun y H2 => ∃ z, y = .str z ∧ H2 a = some (.dK kvs) ∧ Q ((valV kvs (Sum.inr z)).getD .non) H2
theorem pe_g1 {X : Cx} {o e : Expr} {td ty : TE} {apos cpos : Pos} (hu : X.A.units + 1 < cLine) (ho : PE X o td) (he : PE X e ty) (m : M1 X o "get" apos e cpos) : PE X (.Call (.Attribute o "get" apos) [e] [] cpos) (tG1 td ty) := by
  refine ⟨fun pins s σ H Q I h => wpAny_Call_method m.base m.few m.line PySem.F.plainAttrs_dict PySem.F.slot_dict_get PySem.F.type_dict_get (thn (ho.run pins s σ H _ I h) fun u s1 got => ?_)⟩
  obtain ⟨x, H1, I1, rx, a, ex, kvs, hk, q1⟩ := got
  subst ex
  obtain rfl : u = Value.ref a := rx
  have d := isD_at I1 (.inl ⟨kvs, .inl hk⟩)
  refine ⟨d.1, d.2.1, ?_⟩
  rw [m.trees]
  refine Calls.callWith_builtin rfl (Calls.evalArgs_plain (Calls.spliced_cons (thn (he.run pins s1 σ H1 _ I1 q1) fun iv s2 got2 => Calls.spliced_nil ?_)))
  obtain ⟨y, H2, I2, ry, z, ez, hk2, q2⟩ := got2
  have g : DGet H2 a y (valV kvs (Sum.inr z)) := by
    subst ez
    exact DGet.k (k := Sum.inr z) hk2
  exact d_get1 hu I2 g ry fun w' s4 I4 rw' => ⟨_, H2, I4, rw', q2⟩
end HotExc
namespace K01
open PySem PySem.Spec PyProof.Rows L2 TL HotExc Tw WX
theorem m_lenX {K : PySem.W.Frag} : Cm (rLenX K) := fun xs H Q Q' k ⟨p, e, ys, h, q⟩ => ⟨p, e, ys, h, k _ _ q⟩
end K01
namespace K01
open PySem PySem.Spec PyProof.Rows L2 TL HotExc Tw WX
local macro_rules | `(tactic| walk_at "rd") => `(tactic| simp only [start1, tMethP, tG1, rSetOfS, tDisp, tPairs, rSInK, tAug, ipI, wipe, isR, isBool, isInt, isStr, isLst, isTup, tAsg, gName, gSub, tVar, tC, tOp, tUn, tTest, tIfS, tRet, tRetN, tDrop, tB, tAnd, tOr, tNot, tAndV, tOrV, tNotV, tIf, tCB, tCons, tNil, tNext, tCall, tBM, tTup, tLst, rU, rInW, rNinW, Int.reduceNeg, tG, tG2, sP, tFldC, sFldC, tProp, tMeth, tMake, rOwnC, rLenO, rIsC, rNoT, tAddT, tSAddK, rSAddK, rSInK, rSet0K, rSet0T, rMinS, rMaxS, rSortedQ, rSortedT, rEqD, rNeD, rIxD, dcL_eq, dcZ_eq, lcO_eq, forE_eq, forT_eq, lcS_eq, ItX.rIterN, iOwn, List.append_nil, tDisp, tPairs, tCallS, tCallSD, tCallT, StX.tStar, tCallK, tCallKS, rTupOf, tDrop, rI0, rI, rEq, rNe, scal, forR_eq, forR2_eq, forS_eq, forL_eq, lcT_eq, lcRT_eq, lcS_eq, rLenX, rLenS, rListOf, tRevL, rMulS, rRepL, rCatL, rSumN, rMaxN, tBM0, rPop, tAug, ipI,  tPart, tNoPart, CwR.tReplC, rAllK, rInSg, rNinSg, sgn_inj, rAddS, rInSt, tChain, tM1, tM0, rSplitN, rJoinN, exists_eq, rIntI, rIntB, rIntS, rStrI, rAbs, rOrd, rMin, rMax, rIxL, rIxX, rSetL, rAppend, rIxS, rSlS, rSlL, tSl, List.map_cons, List.map_nil, List.replicate_succ, List.replicate_zero, List.length_cons, List.length_nil, Nat.reduceSub, Nat.reduceAdd, Nat.zero_add, Nat.sub_self, List.getElem?_cons_zero, List.getElem?_cons_succ, List.set_cons_zero, List.set_cons_succ, List.append_nil, List.nil_append, List.cons_append, Option.some.injEq, not_true_eq_false, reduceCtorEq, exists_eq_left', exists_eq_left, exists_eq', exists_and_left, exists_and_right, V.int.injEq, V.str.injEq, V.bl.injEq, V.ref.injEq, List.cons.injEq, and_true, true_and, and_assoc, decide_eq_true_eq, Bool.not_eq_true', decide_eq_false_iff_not, ite_true, ite_false, if_true, if_false, Bool.not_true, Bool.not_false, Bool.false_eq_true, eq_self_iff_true, reduceIte, ne_eq, Int.reduceEq, not_false_eq_true])
local macro_rules | `(tactic| walk_at "rt") => `(tactic| try walk_at "rd")
local macro_rules | `(tactic| walk_at "st") => `(tactic| (walk_at "rt"; refine r_seq ?_; walk_at "rt"))
local macro_rules | `(tactic| walk_at "hp") => `(tactic| first | assumption | exact upd_same | (rw [upd_ne (by assumption)]; walk_at "hp"))
local macro_rules | `(tactic| walk_at "ex1") => `(tactic| ((with_reducible refine Exists.intro ?w (And.intro ?hx ?_)); (case hx => first | exact sq_of (by walk_at "hp") | exact .inl (sq_of (by walk_at "hp")) | exact rfl | (show _ = some (HO.lst _); walk_at "hp"))))
local macro_rules | `(tactic| walk_at "ex") => `(tactic| repeat (first | walk_at "ex1" | walk_at "rd"))
abbrev s_mWeb_checkplace : Stmt := clsS 38 11
theorem sc_mWeb_checkplace : FnScope ["self", "place"] ["self", "place"] (defScope s_mWeb_checkplace) := ⟨rfl, rfl, rfl, by decide +kernel, rfl, by decide +kernel, by decide +kernel⟩
abbrev s_mWeb_checkall : Stmt := clsS 38 12
theorem sc_mWeb_checkall : FnScope ["self", "within"] ["self", "within"] (defScope s_mWeb_checkall) := ⟨rfl, rfl, rfl, by decide +kernel, rfl, by decide +kernel, by decide +kernel⟩
abbrev s_mWeb_stepsfrom : Stmt := clsS 38 13
theorem sc_mWeb_stepsfrom : FnScope ["self", "start", "within"] ["self", "start", "within"] (defScope s_mWeb_stepsfrom) := ⟨rfl, rfl, rfl, by decide +kernel, rfl, by decide +kernel, by decide +kernel⟩
abbrev s_iNoPlace : Stmt := clsS 8 0
theorem sc_iNoPlace : FnScope ["self", "place"] ["self", "place"] (defScope s_iNoPlace) := ⟨rfl, rfl, rfl, by decide +kernel, rfl, by decide +kernel, by decide +kernel⟩
/-- NoPlace, told of z -/
def NoPl (CN : Addr) (z : Str) (H : Hp) (E : XK) : Prop := ∀ d, H d = none → E (.ref CN) (some d) (L2.upd H d (.xd [(("place" : Str), .str z)]))
def oddIn (ws zs : List Str) : Option Str := zs.find? fun z => decide (z ∉ ws)
def spCkPl (C CN : Addr) : Sp := fun vs H Q E => ∃ x Ps T z, vs = [.ref x, .str z] ∧ IsWeb C H x Ps T ∧ (z ∈ Ps → Q .non H) ∧ (z ∉ Ps → NoPl CN z H E)
def spCkAll (C CN : Addr) : Sp := fun vs H Q E => ∃ (x p : Addr) (Ps : List Str) (T : List (Str × Str)) (W : List Str), vs = [.ref x, .ref p] ∧ IsWeb C H x Ps T ∧ H p = some (.lst (W.map V.str)) ∧ (oddIn Ps W = none → Q .non H) ∧ (∀ z, oddIn Ps W = some z → NoPl CN z H E)
def spStF (C : Addr) : Sp := fun vs H Q _ => ∃ (x p : Addr) (Ps : List Str) (T : List (Str × Str)) (W : List Str) (s : Str), vs = [.ref x, .str s, .ref p] ∧ IsWeb C H x Ps T ∧ T.length ≤ 60 ∧ H p = some (.lst (W.map V.str)) ∧ W.length ≤ 100 ∧ (∀ y ∈ W, y ∈ Ps) ∧
  ∀ q kvs d ks H', Keeps H H' → H q = none → H' q = some (.dK kvs) → TabD kvs d → Exact T W s d → kvs.map (·.1) = (ks : List Str).map Sum.inr → ks.Nodup → (∀ x, x ∈ ks ↔ ∃ v, d x = some v) → Q (.ref q) H'
theorem webF_near (pl tl nd : Addr) : (webF pl tl nd).lookup (Str.ofString "_near") = some (.ref nd) := by
  unfold webF
  rw [lookup_putF, if_pos rfl]
theorem near_has {H : Hp} {nd : Addr} {Ps : List Str} {T : List (Str × Str)} (h : NearAt H nd Ps T) : ∃ kvs, H nd = some (.dK kvs) ∧ (∀ z, (valV kvs (Sum.inr z)).isSome = decide (z ∈ Ps)) ∧ ∀ x ∈ Ps, ∃ l, valV kvs (Sum.inr x) = some (.ref l) ∧ H l = some (.lst ((sortS (nears T x)).map V.str)) := by
  obtain ⟨kvs, h1, h2, h3⟩ := h
  refine ⟨kvs, h1, fun z => ?_, h2⟩
  by_cases hz : z ∈ Ps
  · obtain ⟨l, e, _⟩ := h2 z hz
    rw [e, decide_eq_true hz]
    rfl
  · rw [decide_eq_false hz]
    cases e : valV kvs (Sum.inr z) with
    | none => rfl
    | some v =>
      obtain ⟨x, hx, e2⟩ := h3 _ v e
      cases e2
      exact absurd hx hz
theorem webF_no (pl tl nd : Addr) {m : Str} (h1 : m ≠ Str.ofString "_near") (h2 : m ≠ Str.ofString "_ties") (h3 : m ≠ Str.ofString "_places") : (webF pl tl nd).lookup m = none := by
  unfold webF
  rw [lookup_putF, if_neg h1, lookup_putF, if_neg h2, lookup_putF, if_neg h3]
  rfl
section
variable {P : Program} {w : World} {K : PySem.W.Frag} {mg : Str → Option Value} {base : Heap}
theorem ok_iNoPlace {C f : Addr} {fd : FuncData} (T : OexC K C) (no : PySem.W.findIn K (.ref C) "place" = some none) (F : Fun K "__init__" "NoPlace.__init__" s_iNoPlace f fd) : FnOk P w K mg base CX0 1 f fd ["self", "place"] (spIni1 C "place") := by
  refine F.ok sc_iNoPlace (fun vs H Q E h => ?_) (fun cdv A outer s H vs Q E hr h => ?_)
  · obtain ⟨a, y, rfl, _⟩ := h
    rfl
  · obtain ⟨a, y, rfl, ha, q⟩ := h
    exact ⟨_, (pss_one (ps_ost (pv 0) (pv 1))), _, rfl, _, rfl, a, C, rfl, T, no, .inl ⟨ha, fun dx n ne => q dx n ne⟩⟩
theorem ok_checkplace {c_Web CN fI f : Addr} {fdI fd : FuncData} (X_NoPlace : Exn K mg "NoPlace" CN fI) (BI_NoPlace : Binds K fdI ["self", "place"] []) (GI_NoPlace : FnOk P w K mg base CX0 1 fI fdI ["self", "place"] (spIni1 CN "place"))
    (F : Fun K "_check_place" "Web._check_place" s_mWeb_checkplace f fd) (CL_Web : Cls K c_Web) (NA_Web_near : NoAttr K c_Web "_near") : FnOk P w K mg base (L2N.CX P w) 3 f fd ["self", "place"] (spCkPl c_Web CN) := by
  refine okN F sc_mWeb_checkplace (fun vs H Q E h => ?_) (fun cdv A outer s H vs Q E hr h => ?_)
  · obtain ⟨x, Ps, T, z, rfl, _⟩ := h
    rfl
  · obtain ⟨x, Ps, T, z, rfl, ⟨pl, tl, nd, dx, vs, W⟩, h1, h2⟩ := h
    refine ⟨_, (pss_one (ps_if (pt_cmp (pc_dnotin (hu_of hr) (pv 1) (pe_fldC CL_Web NA_Web_near (pv 0) (by rfl)))) (pss_one (L2N.ps_raise rfl (L2N.takes_of rfl rfl rfl rfl) (pmkN X_NoPlace.oex X_NoPlace.ini X_NoPlace.fn GI_NoPlace (hr.mono (by omega)) BI_NoPlace pass0 (by rfl) X_NoPlace.g (pa_cons (pv 1) pa_nil)))) pss_nil)), ?_⟩
    obtain ⟨kvs, hn, his, _⟩ := near_has W.nr
    unfold tDNotIn
    walk_at "rt"
    refine ⟨dx, _, W.ob, _, webF_near _ _ _, _, rfl, _, DGet.k (k := Sum.inr z) hn, ?_⟩
    rw [his z]
    by_cases hz : z ∈ Ps
    · rw [decide_eq_true hz]
      exact h1 hz
    · rw [decide_eq_false hz]
      walk_at "rt"
      exact ⟨_, rfl, mk1 (h2 hz)⟩
end
end K01
namespace K01
open PySem PySem.Spec PyProof.Rows L2 TL HotExc Tw
local macro_rules | `(tactic| walk_at "rd") => `(tactic| simp only [start1, wipe, isR, isBool, isInt, isStr, isLst, isTup, tAsg, gName, gSub, tVar, tC, tOp, tUn, tTest, tIfS, tRet, tRetN, tDrop, tB, tAnd, tOr, tNot, tAndV, tOrV, tNotV, tIf, tCB, tCons, tNil, tNext, tCall, tBM, tTup, tLst, rU, rInW, rNinW, Int.reduceNeg, tG, tG2, sP, tDisp, tPairs, tCallS, tCallSD, tCallT, StX.tStar, tCallK, tCallKS, rTupOf, tDrop, rI0, rI, rEq, rNe, scal, forR_eq, forR2_eq, forS_eq, forL_eq, lcT_eq, lcRT_eq, lcS_eq, rLenX, rLenS, rListOf, tRevL, rMulS, rRepL, rCatL, rSumN, rMaxN, tBM0, rPop, tAug, ipI,  tPart, tNoPart, CwR.tReplC, rAllK, rInSg, rNinSg, sgn_inj, rAddS, rInSt, tChain, tM1, tM0, rSplitN, rJoinN, exists_eq, rIntI, rIntB, rIntS, rStrI, rAbs, rOrd, rMin, rMax, rIxL, rIxX, rSetL, rAppend, rIxS, rSlS, rSlL, tSl, List.map_cons, List.map_nil, List.replicate_succ, List.replicate_zero, List.length_cons, List.length_nil, Nat.reduceSub, Nat.reduceAdd, Nat.zero_add, Nat.sub_self, List.getElem?_cons_zero, List.getElem?_cons_succ, List.set_cons_zero, List.set_cons_succ, List.append_nil, List.nil_append, List.cons_append, Option.some.injEq, not_true_eq_false, reduceCtorEq, exists_eq_left', exists_eq_left, exists_eq', exists_and_left, exists_and_right, V.int.injEq, V.str.injEq, V.bl.injEq, V.ref.injEq, List.cons.injEq, and_true, true_and, and_assoc, decide_eq_true_eq, Bool.not_eq_true', decide_eq_false_iff_not, ite_true, ite_false, if_true, if_false, Bool.not_true, Bool.not_false, Bool.false_eq_true, eq_self_iff_true, reduceIte, ne_eq, Int.reduceEq, not_false_eq_true])
local macro_rules | `(tactic| walk_at "rt") => `(tactic| try walk_at "rd")
local macro_rules | `(tactic| walk_at "st") => `(tactic| (walk_at "rt"; refine r_seq ?_; walk_at "rt"))
local macro_rules | `(tactic| walk_at "hp") => `(tactic| first | assumption | exact upd_same | (rw [upd_ne (by assumption)]; walk_at "hp"))
local macro_rules | `(tactic| walk_at "ex1") => `(tactic| ((with_reducible refine Exists.intro ?w (And.intro ?hx ?_)); (case hx => first | exact sq_of (by walk_at "hp") | exact .inl (sq_of (by walk_at "hp")) | exact rfl | (show _ = some (HO.lst _); walk_at "hp"))))
local macro_rules | `(tactic| walk_at "ex") => `(tactic| repeat (first | walk_at "ex1" | walk_at "rd"))
abbrev s_signs : Stmt := topS 69
theorem sc_signs : FnScope ["store", "web", "kind", "menu", "place"] ["store", "web"] (defScope s_signs) := ⟨rfl, rfl, rfl, by decide +kernel, rfl, by decide +kernel, by decide +kernel⟩
/-! ### signs -/
def sgc (c : Nat) : Prop := c = 46 ∨ c = 100 ∨ c = 108
def spSigns : Sp := fun vs H Q _ => ∃ (a c w p : Addr) (xs : List V) (y z : V), vs = [.ref a, .ref w] ∧ StoreAt H a c ∧ H w = some (.tup [.ref p, y, z]) ∧ H p = some (.lst xs) ∧ p ≠ a ∧ xs.length ≤ 30 ∧ Drawn H a c (fun v => ∃ l, v = .str (S l) ∧ l.length = xs.length ∧ ∀ x ∈ l, sgc x) Q
theorem mul_one (k n : Nat) : Txt.mul (S [k]) (n : Int) = S (List.replicate n k) := by
  have key : ∀ (m : Nat) (acc : Array Nat), (List.foldl (fun x1 x2 => x1 ++ x2) acc (List.replicate m (#[k] : Array Nat))).toList = acc.toList ++ List.replicate m k := by
    intro m
    induction m with
    | zero => intro acc; simp
    | succ m ih =>
      intro acc
      rw [List.replicate_succ, List.foldl_cons, ih, List.replicate_succ]
      simp
  unfold Txt.mul
  by_cases h0 : n = 0
  · subst h0
    rfl
  · rw [if_neg (by omega)]
    by_cases h1 : n = 1
    · subst h1
      rfl
    · have hn : ((n : Int) == 1 || (S [k]).length == 0) = false := by
        rw [S_len]
        simp
        omega
      rw [hn]
      refine tl_inj ?_
      show (List.foldl (fun x1 x2 => x1 ++ x2) (#[] : Array Nat) (List.replicate (n : Int).toNat (#[k] : Array Nat))).toList = _
      rw [Int.toNat_natCast, key]
      rfl
def menus : List Str := [Str.ofString "...d", Str.ofString "...l", Str.ofString "....dl", Str.ofString "ddd.", Str.ofString "lll.", Str.ofString ".dl", Str.ofString ".dl", Str.ofString "ddl.", Str.ofString "lld."]
instance (c : Nat) : Decidable (sgc c) := by unfold sgc; infer_instance
theorem menu_ok : menus.all (fun m => decide (m.length ≤ 6 ∧ m.cps.toList ≠ [] ∧ ∀ x ∈ m.cps.toList, sgc x)) = true := by decide +kernel
section
variable {P : Program} {w : World} {K : PySem.W.Frag} {mg : Str → Option Value} {base : Heap}
theorem ok_signs {f f_take f_pick : Addr} {fd fd_take fd_pick : FuncData} (B : Bi mg) (D : Dn K mg "_law_signs" s_signs ["store", "web"] f fd) (D_take : Dn K mg "_law_take" s_take ["store", "many"] f_take fd_take) (D_pick : Dn K mg "_law_pick" s_pick ["store", "row"] f_pick fd_pick)
    (G_take : FnOk P w K mg base CX0 2 f_take fd_take ["store", "many"] spTake) (G_pick : FnOk P w K mg base CX0 3 f_pick fd_pick ["store", "row"] spPick) : FnOk P w K mg base CX0 4 f fd ["store", "web"] spSigns := by
  refine D.F.ok sc_signs (fun vs H Q E h => ?_) (fun cdv A outer s H vs Q E hr h => ?_)
  · obtain ⟨a, c, w, p, xs, y, z, rfl, _⟩ := h
    rfl
  · obtain ⟨a, c, w, p, xs, y, z, rfl, S0, hw, hp, pa, hl, q⟩ := h
    refine ⟨_, (pss_cons (ps_set (i := 2) sc_signs.nd rfl (.inl rfl) (pe_call G_take (hr.mono (by omega)) (by rfl) D_take.g D_take.F.kp D_take.b .nil pass0 (pa_cons (pv 0) (pa_cons pe_int pa_nil))))
      (pss_cons (ps_if (pt_cmpR op_eq (pv 2) pe_int (nomark _)) (pss_one (ps_ret (pe_op op_mulS (pe_call G_pick (hr.mono (by omega)) (by rfl) D_pick.g D_pick.F.kp D_pick.b .nil pass0 (pa_cons (pv 0) (pa_cons pe_str pa_nil))) (pe_callB (call_lenXK (K := K)) (by rfl) B.len PySem.boot_len (pa_cons (pe_ix (ix_sxK (K := K)) (pv 1) pe_int (fun _ _ => rfl)) pa_nil))))) pss_nil)
      (pss_cons (ps_set (i := 3) sc_signs.nd rfl (.inr rfl) (pe_ix (ix_listK (K := K)) (pe_lst (pa_cons pe_str (pa_cons pe_str (pa_cons pe_str (pa_cons pe_str (pa_cons pe_str (pa_cons pe_str (pa_cons pe_str (pa_cons pe_str (pa_cons pe_str pa_nil)))))))))) (pe_op op_sub (pv 2) pe_int) (fun _ _ => rfl)))
      (pss_one (ps_ret (pe_m1 PySem.F.slot_str_join PySem.F.type_str_join (mt_joinK (K := K)) pe_str (pe_lc (own := [("place", 4)]) (g := gName 4) (tt := tYes) (by rfl) sc_signs.nd (pi_listK (K := K) (pe_ix (ix_sxK (K := K)) (pv 1) pe_int (fun _ _ => rfl))) (blkOk_by (own := [("place", 4)]) (N := ["store", "web", "kind", "menu", "place"]) (sc := defScope s_signs) (by decide +kernel)) (fun _ _ _ _ _ => pg_name (i := 4) sc_signs.nd rfl (Or.inl rfl)) (fun _ _ _ _ _ => pts_nil) (fun _ _ _ _ _ => (pe_call G_pick (hr.mono (by omega)) (by rfl) D_pick.g D_pick.F.kp D_pick.b .nil pass0 (pa_cons (pv 0) (pa_cons (pv 3) pa_nil))))))))))), ?_⟩
    walk_at "st"
    refine ⟨a, c, _, rfl, S0, by decide, fun v H1 S1 b1 ⟨kind, e, k0, k1⟩ => ?_⟩
    subst e
    have wa : w ≠ a := store_tup S0 hw
    have hw1 := b1 w _ wa hw
    have hp1 := b1 p _ pa hp
    walk_at "st"
    refine ite2 (fun _ => ?_) (fun h0 => ?_)
    · refine ⟨a, c, _, rfl, S1, by decide +kernel, by decide +kernel, fun v H2 S2 b2 ⟨k, hk, e⟩ => ?_⟩
      have hk : k ∈ [46, 100, 108] := by
        have : (Str.ofString ".dl").cps.toList = [46, 100, 108] := by decide +kernel
        rw [← this]; exact hk
      have hk : sgc k := by simpa [sgc] using hk
      refine ⟨_, .inr (.inl (.inl (b2 w _ wa hw1))), _, rfl, _, rfl, _, .inl (sq_of (b2 p _ pa hp1)), _, e, 1, Nat.le_refl 1, xs.length, Int.le_refl _, by omega, by omega, by omega, ?_⟩
      rw [show ({ cps := #[k] } : Str) = S [k] from rfl, mul_one]
      exact q _ H2 S2 (b1.trans b2) ⟨_, rfl, List.length_replicate, fun x hx => by rw [(List.mem_replicate.mp hx).2]; exact hk⟩
    walk_at "st"
    refine ⟨by rw [PySem.sizeLine_eq]; decide, fun m nm => ?_⟩
    obtain ⟨j, hj, hj8⟩ : ∃ j : Nat, kind - 1 = (j : Int) ∧ j < 9 := ⟨(kind - 1).toNat, by omega, by omega⟩
    have hj9 : j < menus.length := hj8
    have hmj := List.getElem?_eq_getElem hj9
    obtain ⟨ml, mne, mc⟩ := of_decide_eq_true (List.all_eq_true.mp menu_ok _ (List.getElem_mem hj9))
    generalize menus[j] = mn at *
    have k2 : Keeps H1 (L2.upd H1 m (.lst (menus.map V.str))) := Keeps.new nm
    have hm2 : L2.upd H1 m (.lst (menus.map V.str)) m = some (.lst (menus.map V.str)) := upd_same
    have el : ([V.str (Str.ofString "...d"), V.str (Str.ofString "...l"), V.str (Str.ofString "....dl"), V.str (Str.ofString "ddd."), V.str (Str.ofString "lll."), V.str (Str.ofString ".dl"), V.str (Str.ofString ".dl"), V.str (Str.ofString "ddl."), V.str (Str.ofString "lld.")] : List V) = menus.map V.str := rfl
    rw [el]
    generalize L2.upd H1 m (.lst (menus.map V.str)) = H2 at *
    refine ⟨_, sq_of hm2, .str mn, by rw [hj]; exact atI_nat (by rw [List.getElem?_map, hmj]; rfl), _, .inr (.inl (.inl (k2 _ _ hw1))), _, rfl, _, rfl, ⟨_, sq_of (k2 _ _ hp1)⟩, fun Dd nD => ?_⟩
    have S2 := Keeps.store S1 k2
    have b02 := b1.trans (Keeps.but k2)
    have nD0 : H Dd = none := by
      cases e : H Dd with
      | none => rfl
      | some o => have := b02 Dd o (S2.ne1 nD) e; rw [nD] at this; cases this
    have Da := S2.ne1 nD
    have Dc := S2.ne2 nD
    have Dp : Dd ≠ p := fun z => by rw [z, k2 _ _ hp1] at nD; cases nD
    refine r_lcTL xs (fun i H' => StoreAt H' a c ∧ But a H H' ∧ H' p = some (.lst xs) ∧ ∃ cs : List Nat, cs.length = i ∧ (∀ x ∈ cs, sgc x) ∧ H' Dd = some (.lst ((cs.map fun c => S [c]).map V.str))) (fun _ => rfl) ⟨S2.new nD, b02.trans (Keeps.but (Keeps.new nD)), Keeps.new nD _ _ (k2 _ _ hp1), [], rfl, fun _ h => (by cases h), upd_same⟩ (fun i H' _ h => sq_of h.2.2.1) ?_ ?_
    · rintro i x H3 hx ⟨S3, b3, hp3, cs, hcl, hcs, hD⟩ N kN
      have hi := lt_of_get hx
      walk_at "rt"
      refine ⟨a, c, _, rfl, S3, mne, by omega, fun v H4 S4 b4 ⟨k, hk, e⟩ => ?_⟩
      subst e
      refine kN _ H4 _ (b4 Dd _ Da hD) (size_ok (by rw [List.length_map, List.length_map, hcl]; omega)) ⟨S4.put Da Dc, fun b o hb e => ?_, (upd_ne Dp.symm).trans (b4 p _ pa hp3), cs ++ [k], by rw [List.length_append, hcl]; rfl, fun x hx => ?_, by rw [upd_same, List.map_append, List.map_append]; rfl⟩
      · rw [upd_ne (fun z => by rw [z, nD0] at e; cases e)]
        exact (b3.trans b4) b o hb e
      · rcases List.mem_append.mp hx with hx | hx
        · exact hcs x hx
        · rw [List.mem_singleton.mp hx]
          exact mc k hk
    · rintro H3 ⟨S3, b3, hp3, cs, hcl, hcs, hD⟩
      have e0 : (cs.map fun c => S [c]) = (cs.map fun c => [c]).map S := by rw [List.map_map]; rfl
      have ej : Txt.join (Str.ofString "") (cs.map fun c => S [c]) = S cs := by rw [S_emp, e0, join_S, flat_one]
      walk_at "rt"
      refine ⟨cs.map fun c => S [c], sq_of hD, ?_, ?_⟩
      · rw [e0, sum_len', S_emp, S_len, List.length_nil, Nat.mul_zero, Nat.add_zero, flat_one]
        omega
      · rw [ej]
        exact q _ H3 S3 b3 ⟨cs, rfl, hcl, hcs⟩
end
end K01
namespace K01
open PySem PySem.Spec PyProof.Rows L2 TL HotExc L2H HotLc Tw WX
local macro_rules | `(tactic| walk_at "rd") => `(tactic| simp only [start1, tMakeS, rIndex, tMethP, tG1, rSetOfS, tDisp, tPairs, rSInK, tAug, ipI, wipe, isR, isBool, isInt, isStr, isLst, isTup, tAsg, gName, gSub, tVar, tC, tOp, tUn, tTest, tIfS, tRet, tRetN, tDrop, tB, tAnd, tOr, tNot, tAndV, tOrV, tNotV, tIf, tCB, tCons, tNil, tNext, tCall, tBM, tTup, tLst, rU, rInW, rNinW, Int.reduceNeg, tG, tG2, sP, tFldC, sFldC, tProp, tMeth, tMake, rOwnC, rLenO, rIsC, rNoT, tAddT, tSAddK, rSAddK, rSInK, rSet0K, rSet0T, rMinS, rMaxS, rSortedQ, rSortedT, rEqD, rNeD, rIxD, dcL_eq, dcZ_eq, lcO_eq, forE_eq, forT_eq, lcS_eq, ItX.rIterN, iOwn, List.append_nil, tDisp, tPairs, tCallS, tCallSD, tCallT, StX.tStar, tCallK, tCallKS, rTupOf, tDrop, rI0, rI, rEq, rNe, scal, forR_eq, forR2_eq, forS_eq, forL_eq, lcT_eq, lcRT_eq, lcS_eq, rLenX, rLenS, rListOf, tRevL, rMulS, rRepL, rCatL, rSumN, rMaxN, tBM0, rPop, tAug, ipI,  tPart, tNoPart, CwR.tReplC, rAllK, rInSg, rNinSg, sgn_inj, rAddS, rInSt, tChain, tM1, tM0, rSplitN, rJoinN, exists_eq, rIntI, rIntB, rIntS, rStrI, rAbs, rOrd, rMin, rMax, rIxL, rIxX, rSetL, rAppend, rIxS, rSlS, rSlL, tSl, List.map_cons, List.map_nil, List.replicate_succ, List.replicate_zero, List.length_cons, List.length_nil, Nat.reduceSub, Nat.reduceAdd, Nat.zero_add, Nat.sub_self, List.getElem?_cons_zero, List.getElem?_cons_succ, List.set_cons_zero, List.set_cons_succ, List.append_nil, List.nil_append, List.cons_append, Option.some.injEq, not_true_eq_false, reduceCtorEq, exists_eq_left', exists_eq_left, exists_eq', exists_and_left, exists_and_right, V.int.injEq, V.str.injEq, V.bl.injEq, V.ref.injEq, List.cons.injEq, and_true, true_and, and_assoc, decide_eq_true_eq, Bool.not_eq_true', decide_eq_false_iff_not, ite_true, ite_false, if_true, if_false, Bool.not_true, Bool.not_false, Bool.false_eq_true, eq_self_iff_true, reduceIte, ne_eq, Int.reduceEq, not_false_eq_true])
local macro_rules | `(tactic| walk_at "rt") => `(tactic| try walk_at "rd")
local macro_rules | `(tactic| walk_at "st") => `(tactic| (walk_at "rt"; refine r_seq ?_; walk_at "rt"))
local macro_rules | `(tactic| walk_at "hp") => `(tactic| first | assumption | exact upd_same | (rw [upd_ne (by assumption)]; walk_at "hp"))
local macro_rules | `(tactic| walk_at "ex1") => `(tactic| ((with_reducible refine Exists.intro ?w (And.intro ?hx ?_)); (case hx => first | exact sq_of (by walk_at "hp") | exact .inl (sq_of (by walk_at "hp")) | exact rfl | (show _ = some (HO.lst _); walk_at "hp"))))
local macro_rules | `(tactic| walk_at "ex") => `(tactic| repeat (first | walk_at "ex1" | walk_at "rd"))
abbrev s_mBoard_sign : Stmt := clsS 47 3
theorem sc_mBoard_sign : FnScope ["self", "place"] ["self", "place"] (defScope s_mBoard_sign) := ⟨rfl, rfl, rfl, by decide +kernel, rfl, by decide +kernel, by decide +kernel⟩
abbrev s_handof : Stmt := topS 35
theorem sc_handof : FnScope ["sign"] ["sign"] (defScope s_handof) := ⟨rfl, rfl, rfl, by decide +kernel, rfl, by decide +kernel, by decide +kernel⟩
abbrev s_mBoard_handat : Stmt := clsS 47 4
theorem sc_mBoard_handat : FnScope ["self", "place"] ["self", "place"] (defScope s_mBoard_handat) := ⟨rfl, rfl, rfl, by decide +kernel, rfl, by decide +kernel, by decide +kernel⟩
abbrev s_mBoard_put : Stmt := clsS 47 6
theorem sc_mBoard_put : FnScope ["self", "place", "sign", "signs", "name"] ["self", "place", "sign"] (defScope s_mBoard_put) := ⟨rfl, rfl, rfl, by decide +kernel, rfl, by decide +kernel, by decide +kernel⟩
abbrev s_emptyboard : Stmt := topS 49
theorem sc_emptyboard : FnScope ["web"] ["web"] (defScope s_emptyboard) := ⟨rfl, rfl, rfl, by decide +kernel, rfl, by decide +kernel, by decide +kernel⟩
theorem boardF_none (w : Addr) (sg : Str) (d : Addr) {m : Str} (h1 : m ≠ Str.ofString "_sign_at") (h2 : m ≠ Str.ofString "_signs") (h3 : m ≠ Str.ofString "_web") : (boardF w sg d).lookup m = none := by
  unfold boardF
  rw [lookup_putF, if_neg h1, lookup_putF, if_neg h2, lookup_putF, if_neg h3]
  rfl
/-- the hand of a sign -/
def hndS (c : Nat) : Option Str := if c = 100 then some (Str.ofString "dark") else if c = 108 then some (Str.ofString "light") else none
def hndV (c : Nat) : V := match hndS c with | some y => .str y | none => .non
def hndD (c : Nat) : Dat := match hndS c with | some y => .str y | none => .non
theorem at_hnd {H : Hp} {A : Addr → Prop} (c : Nat) : At H A (hndD c) (hndV c) := by
  unfold hndD hndV
  cases hndS c <;> rfl
def spBsign (CW CB CN : Addr) : Sp := fun vs H Q E => ∃ b z Ps T sg, vs = [.ref b, .str z] ∧ IsBoard CW CB H b Ps T sg ∧ (∀ (i : Nat) c, Ps[i]? = some z → (tl sg)[i]? = some c → Q (.str ⟨#[c]⟩) H) ∧ (z ∉ Ps → NoPl CN z H E)
def spHof : Sp := fun vs H Q _ => ∃ c, vs = [.str ⟨#[c]⟩] ∧ sgn c ∧ Q (hndV c) H
def spBha (CW CB CN : Addr) : Sp := fun vs H Q E => ∃ b z Ps T sg, vs = [.ref b, .str z] ∧ IsBoard CW CB H b Ps T sg ∧ (∀ (i : Nat) c, Ps[i]? = some z → (tl sg)[i]? = some c → Q (hndV c) H) ∧ (z ∉ Ps → NoPl CN z H E)
/-- the signs with another one at a place -/
def putS (sg : Str) (i c : Nat) : Str := S ((tl sg).set i c)
theorem SgOk.put {n : Nat} {sg : Str} (h : SgOk n sg) {i c : Nat} (hc : sgn c) : SgOk n (putS sg i c) := ⟨by rw [putS, tl_S, List.length_set]; exact h.len, fun x hx => by
  rw [putS, tl_S] at hx
  rcases List.mem_or_eq_of_mem_set hx with g | rfl
  · exact h.al x g
  · exact hc⟩
def spPut (CW CB CN CS : Addr) : Sp := fun vs H Q E => ∃ b z s Ps T sg, vs = [.ref b, .str z, .str s] ∧ IsBoard CW CB H b Ps T sg ∧ (z ∉ Ps → NoPl CN z H E) ∧ (z ∈ Ps → s ∉ signs3 → NoAt CS 0 H E) ∧
  (∀ (i c : Nat), Ps[i]? = some z → s = ⟨#[c]⟩ → sgn c → ∀ m H', Keeps H H' → IsBoard CW CB H' m Ps T (putS sg i c) → Q (.ref m) H')
def spEmp (CW CB : Addr) : Sp := fun vs H Q _ => ∃ w Ps T, vs = [.ref w] ∧ IsWeb CW H w Ps T ∧ WebOk Ps T ∧ ∀ m H', Keeps H H' → IsBoard CW CB H' m Ps T (S (List.replicate Ps.length 46)) → Q (.ref m) H'
section
variable {CW CB b w d dx : Addr} {H : Hp} {kvs : List (Key × V)} {Ps : List Str} {T : List (Str × Str)} {sg z : Str}
theorem BoardAt.at_ (B : BoardAt CW CB H b w d dx kvs Ps T sg) (hz : z ∈ Ps) : ∃ (i : Nat) (c : Nat), Ps[i]? = some z ∧ (tl sg)[i]? = some c ∧ valV kvs (Sum.inr z) = some (.str ⟨#[c]⟩) := by
  obtain ⟨i, hi, e⟩ := List.getElem_of_mem hz
  have hPi : Ps[i]? = some z := by rw [List.getElem?_eq_getElem hi, e]
  have hl : i < (tl sg).length := by rw [B.sg.len]; exact hi
  exact ⟨i, _, hPi, List.getElem?_eq_getElem hl, B.val i z _ hPi (List.getElem?_eq_getElem hl)⟩
theorem BoardAt.no_ (B : BoardAt CW CB H b w d dx kvs Ps T sg) (hz : z ∉ Ps) : valV kvs (Sum.inr z) = none := by
  cases e : valV kvs (Sum.inr z) with
  | none => rfl
  | some v =>
    obtain ⟨x, hx, e2⟩ := B.dom _ v e
    cases e2
    exact absurd hx hz
end
theorem ones_sum : ∀ l : List Nat, ((l.map fun c => (⟨#[c]⟩ : Str)).map (·.length)).sum = l.length
  | [] => rfl
  | c :: l => by
    rw [List.map_cons, List.map_cons, List.sum_cons, ones_sum l, List.length_cons]
    show 1 + l.length = _
    omega
theorem ones_join (l : List Nat) : Txt.join (Str.ofString "") (l.map fun c => (⟨#[c]⟩ : Str)) = S l := by
  have e0 : (l.map fun c => (⟨#[c]⟩ : Str)) = (l.map fun c => [c]).map S := by
    rw [List.map_map]
    rfl
  rw [S_emp, e0, join_S]
  have : ∀ l : List Nat, (l.map fun c => [c]).flatten = l := by
    intro l
    induction l with
    | nil => rfl
    | cons c l ih => rw [List.map_cons, List.flatten_cons, ih]; rfl
  rw [this]
section
variable {P : Program} {w : World} {K : PySem.W.Frag} {mg : Str → Option Value} {base : Heap}
theorem ok_Bsign {c_Web c_Board CN fI f : Addr} {fdI fd : FuncData} (X_NoPlace : Exn K mg "NoPlace" CN fI) (BI_NoPlace : Binds K fdI ["self", "place"] []) (GI_NoPlace : FnOk P w K mg base CX0 1 fI fdI ["self", "place"] (spIni1 CN "place"))
    (F : Fun K "sign" "Board.sign" s_mBoard_sign f fd) (CL_Board : Cls K c_Board) (NA_Board_sign_at : NoAttr K c_Board "_sign_at") : FnOk P w K mg base (L2N.CX P w) 3 f fd ["self", "place"] (spBsign c_Web c_Board CN) := by
  refine okN F sc_mBoard_sign (fun vs H Q E h => ?_) (fun cdv A outer s H vs Q E hr h => ?_)
  · obtain ⟨b, z, Ps, T, sg, rfl, _⟩ := h
    rfl
  · obtain ⟨b, z, Ps, T, sg, rfl, ⟨wb, d, dx, kvs, Bd⟩, h1, h2⟩ := h
    refine ⟨_, (pss_cons (ps_if (pt_cmp (pc_dnotin (hu_of hr) (pv 1) (pe_fldC CL_Board NA_Board_sign_at (pv 0) (by rfl)))) (pss_one (L2N.ps_raise rfl (L2N.takes_of rfl rfl rfl rfl) (pmkN X_NoPlace.oex X_NoPlace.ini X_NoPlace.fn GI_NoPlace (hr.mono (by omega)) BI_NoPlace pass0 (by rfl) X_NoPlace.g (pa_cons (pv 1) pa_nil)))) pss_nil)
      (pss_one (ps_ret (pe_gS (hu_of hr) (pe_fldC CL_Board NA_Board_sign_at (pv 0) (by rfl)) (pv 1) (fun _ _ => rfl))))), ?_⟩
    unfold tDNotIn
    walk_at "st"
    refine ⟨dx, _, Bd.ob, _, boardF_at _ _ _, _, rfl, _, DGet.k (k := Sum.inr z) Bd.tab, ?_⟩
    by_cases hz : z ∈ Ps
    · obtain ⟨i, c, hPi, hc, hv⟩ := Bd.at_ hz
      rw [hv]
      simp only [Option.isSome_some, Bool.true_eq_false, if_false]
      exact ⟨dx, _, Bd.ob, _, boardF_at _ _ _, _, rfl, kvs, Bd.tab, _, hv, h1 i _ hPi hc⟩
    · rw [Bd.no_ hz]
      simp only [Option.isSome_none, if_true]
      exact ⟨_, rfl, mk1 (h2 hz)⟩
theorem ok_handof {f aH : Addr} {fd : FuncData} (D : Dn K mg "hand_of" s_handof ["sign"] f fd) (gc_HAND_OF_SIGN : mg "HAND_OF_SIGN" = some (.ref aH)) (wr : Writ K w aH) (says : ∀ c, sgn c → Says K aH ⟨#[c]⟩ (hndV c)) : FnOk P w K mg base CX0 1 f fd ["sign"] spHof := by
  refine D.F.ok sc_handof (fun vs H Q E h => ?_) (fun cdv A outer s H vs Q E hr h => ?_)
  · obtain ⟨c, rfl, _⟩ := h
    rfl
  · obtain ⟨c, rfl, hc, q⟩ := h
    exact ⟨_, (pss_one (ps_ret (pe_kget (pe_glob (v := .ref aH) (by rfl) gc_HAND_OF_SIGN rfl) (pv 0) ⟨rfl, rfl, rfl, rfl⟩))), aH, rfl, wr, _, rfl, _, rfl, _, says c hc, q⟩
theorem ok_Bhandat {c_Web c_Board CN f f_handof f_mBs : Addr} {fd fd_handof fd_mBs : FuncData} (F : Fun K "hand_at" "Board.hand_at" s_mBoard_handat f fd) (CL_Board : Cls K c_Board) (D_handof : Dn K mg "hand_of" s_handof ["sign"] f_handof fd_handof) (G_handof : FnOk P w K mg base CX0 1 f_handof fd_handof ["sign"] spHof)
    (ME_mBoard_sign : Meth K c_Board "sign" f_mBs) (B_mBoard_sign : Binds K fd_mBs ["self", "place"] []) (G_mBoard_sign : FnOk P w K mg base (L2N.CX P w) 3 f_mBs fd_mBs ["self", "place"] (spBsign c_Web c_Board CN)) : FnOk P w K mg base (L2N.CX P w) 4 f fd ["self", "place"] (spBha c_Web c_Board CN) := by
  refine okN F sc_mBoard_handat (fun vs H Q E h => ?_) (fun cdv A outer s H vs Q E hr h => ?_)
  · obtain ⟨b, z, Ps, T, sg, rfl, _⟩ := h
    rfl
  · obtain ⟨b, z, Ps, T, sg, rfl, hB, h1, h2⟩ := h
    refine ⟨_, (pss_one (ps_ret (pe_call G_handof (hr.mono (by omega)) (by rfl) D_handof.g D_handof.F.kp D_handof.b .nil pass0 (pa_cons (pe_methP (pv 0) CL_Board ME_mBoard_sign G_mBoard_sign (hr.mono (by omega)) B_mBoard_sign (fun σ => L2N.passAt (L2N.takes_of rfl rfl rfl rfl) σ) (pa_cons (pv 1) pa_nil)) pa_nil)))), ?_⟩
    obtain ⟨wb, d, dx, kvs, Bd⟩ := id hB
    walk_at "rt"
    refine ⟨dx, _, Bd.ob, boardF_none _ _ _ (by decide +kernel) (by decide +kernel) (by decide +kernel), b, z, Ps, T, sg, rfl, hB, fun i c hi hc => ⟨c, rfl, Bd.sg.al c (List.mem_of_getElem? hc), h1 i c hi hc⟩, h2⟩
theorem ok_Bput {c_Web c_Board CN CS fI fS f t_SIGNS f_Wit f_iBoard : Addr} {fdI fdS fd fd_Wit fd_iBoard : FuncData} (X_NoPlace : Exn K mg "NoPlace" CN fI) (BI_NoPlace : Binds K fdI ["self", "place"] []) (GI_NoPlace : FnOk P w K mg base CX0 1 fI fdI ["self", "place"] (spIni1 CN "place"))
    (X_BadSigns : Exn K mg "BadSigns" CS fS) (BI_BadSigns : Binds K fdS ["self", "at"] []) (GI_BadSigns : FnOk P w K mg base CX0 1 fS fdS ["self", "at"] (spIni1 CS "at"))
    (F : Fun K "put" "Board.put" s_mBoard_put f fd) (CL_Board : Cls K c_Board) (NA_Board_web : NoAttr K c_Board "_web") (NA_Board_sign_at : NoAttr K c_Board "_sign_at") (gc_SIGNS : mg "SIGNS" = some (.ref t_SIGNS)) (atS : ∀ H, SqT K H t_SIGNS (signs3.map V.str))
    (SM_mWeb_iter : Sm K c_Web "__iter__" f_Wit) (GS_mWeb_iter : FnOkS P w K mg base CX0 1 f_Wit fd_Wit ["self"] (spIter K (WebR c_Web))) (B_mWeb_iter : Binds K fd_Wit ["self"] [])
    (gc_Board : mg "Board" = some (.ref c_Board)) (MK_Board : Mk K c_Board f_iBoard) (G_iBoard : FnOk P w K mg base (L2N.CX P w) 6 f_iBoard fd_iBoard ["self", "web", "signs"] (spInB c_Web c_Board CS)) (B_iBoard : Binds K fd_iBoard ["self", "web", "signs"] []) : FnOk P w K mg base (L2N.CX P w) 8 f fd ["self", "place", "sign"] (spPut c_Web c_Board CN CS) := by
  refine okN F sc_mBoard_put (fun vs H Q E h => ?_) (fun cdv A outer s H vs Q E hr h => ?_)
  · obtain ⟨b, z, x, Ps, T, sg, rfl, _⟩ := h
    rfl
  · obtain ⟨b, z, x, Ps, T, sg, rfl, ⟨wb, d, dx, kvs, Bd⟩, h1, h2, h3⟩ := h
    refine ⟨_, (pss_cons (ps_if (pt_cmp (pc_dnotin (hu_of hr) (pv 1) (pe_fldC CL_Board NA_Board_sign_at (pv 0) (by rfl)))) (pss_one (L2N.ps_raise rfl (L2N.takes_of rfl rfl rfl rfl) (pmkN X_NoPlace.oex X_NoPlace.ini X_NoPlace.fn GI_NoPlace (hr.mono (by omega)) BI_NoPlace pass0 (by rfl) X_NoPlace.g (pa_cons (pv 1) pa_nil)))) pss_nil)
      (pss_cons (ps_if (pt_cmpR (op_ninW (K := K)) (pv 2) (pe_glob (v := .ref t_SIGNS) (by rfl) gc_SIGNS rfl) (by rfl)) (pss_one (L2N.ps_raise rfl (L2N.takes_of rfl rfl rfl rfl) (pmkN X_BadSigns.oex X_BadSigns.ini X_BadSigns.fn GI_BadSigns (hr.mono (by omega)) BI_BadSigns pass0 (by rfl) X_BadSigns.g (pa_cons pe_int pa_nil)))) pss_nil)
      (pss_cons (ps_setLc (i := 3) (own := [("name", 4)]) (g := gName 4) (tt := tYes) (by rfl) sc_mBoard_put.nd rfl rfl (sw_true rfl rfl rfl (by decide +kernel)) (pi_ownK (K := K) SM_mWeb_iter GS_mWeb_iter (hr.mono (by omega)) B_mWeb_iter pass0 (pe_fldC CL_Board NA_Board_web (pv 0) (by rfl))) (blkOk_by (own := [("name", 4)]) (N := ["self", "place", "sign", "signs", "name"]) (sc := defScope s_mBoard_put) (by decide +kernel)) (fun _ _ _ _ _ => pg_name (i := 4) sc_mBoard_put.nd rfl (Or.inl rfl)) (fun _ _ _ _ _ => pts_nil) (fun _ _ _ _ _ => (pe_ifExp (pt_cmpR op_eq (pv 4) (pv 1) (nomark _)) (pv 2) (pe_gS (hu_of hr) (pe_fldC CL_Board NA_Board_sign_at (pv 0) (by rfl)) (pv 4) (fun _ _ => rfl)))))
      (pss_one (ps_ret (pe_makeS MK_Board G_iBoard (hr.mono (by omega)) (by rfl) gc_Board B_iBoard (fun σ => L2N.passAt (L2N.takes_of rfl rfl rfl rfl) σ) (pa_cons (pe_fldC CL_Board NA_Board_web (pv 0) (by rfl)) (pa_cons (pe_m1 PySem.F.slot_str_join PySem.F.type_str_join (mt_joinK (K := K)) pe_str (pv 3)) pa_nil)))))))), ?_⟩
    unfold tDNotIn
    walk_at "st"
    refine ⟨dx, _, Bd.ob, _, boardF_at _ _ _, _, rfl, _, DGet.k (k := Sum.inr z) Bd.tab, ?_⟩
    by_cases hz : z ∈ Ps
    · obtain ⟨i, c0, hPi, hc0, hv⟩ := Bd.at_ hz
      rw [hv]
      simp only [Option.isSome_some, Bool.true_eq_false, if_false]
      walk_at "st"
      refine ⟨signs3, .inr (atS H), ite2 (fun hn => mk1 (h2 hz hn)) (fun hn => ?_)⟩
      have hx := Classical.not_not.mp hn
      obtain ⟨c, rfl, hc⟩ : ∃ c, x = ⟨#[c]⟩ ∧ sgn c := by
        simp only [signs3, List.mem_cons, List.not_mem_nil, or_false] at hx
        rcases hx with rfl | rfl | rfl
        · exact ⟨46, by decide +kernel, .inl rfl⟩
        · exact ⟨100, by decide +kernel, .inr (.inl rfl)⟩
        · exact ⟨108, by decide +kernel, .inr (.inr rfl)⟩
      obtain ⟨pl, tl', nd, dxw, ys, W⟩ := Bd.web
      walk_at "st"
      refine ⟨dx, _, Bd.ob, _, boardF_web _ _ _, wb, rfl, ⟨_, _, W.ob⟩, pl, ⟨_, _, _, W.ob⟩, ⟨_, sq_of W.pl_⟩, fun D nD => ?_⟩
      have hl := Bd.sg.len
      have h20 := Bd.ok.p20
      have hnd := Bd.ok.nd
      have hl2 : ((tl sg).set i c).length = (tl sg).length := List.length_set
      refine r_lcTL (Ps.map V.str) (fun j H' => Keeps H H' ∧ H' D = some (.lst (((((tl sg).set i c).take j).map fun c => (⟨#[c]⟩ : Str)).map V.str))) (fun _ => rfl) ⟨Keeps.new nD, upd_same⟩ (fun j H' _ h => sq_of (h.1 _ _ W.pl_)) ?_ ?_
      · rintro j v H' hv ⟨k, hD⟩ N kN
        obtain ⟨y, hy, rfl⟩ := get_map hv
        have hj := lt_of_get hy
        obtain ⟨e, he⟩ : ∃ e, (tl sg)[j]? = some e := ⟨_, List.getElem?_eq_getElem (by omega)⟩
        have sz : ∀ l : List Nat, (((l.take j).map fun c => (⟨#[c]⟩ : Str)).map V.str).length < sizeLine := fun l => size_ok (by rw [List.length_map, List.length_map, List.length_take]; omega)
        walk_at "rt"
        refine ite2 (fun e0 => ?_) (fun e0 => ?_)
        · subst e0
          have ij : j = i := (List.getElem?_inj hj hnd).mp (hy.trans hPi.symm)
          subst ij
          have g : ((tl sg).set j c)[j]? = some c := by rw [List.getElem?_set_self (by omega)]
          refine kN _ _ _ hD (sz _) ⟨k.put nD, ?_⟩
          rw [upd_same, take_snoc g, List.map_append, List.map_append]
          rfl
        · have ij : i ≠ j := fun z => by
            subst z
            rw [hPi] at hy
            exact e0 (Option.some.inj hy).symm
          have g : ((tl sg).set i c)[j]? = some e := by rw [List.getElem?_set_ne ij]; exact he
          refine ⟨dx, _, k _ _ Bd.ob, _, boardF_at _ _ _, _, rfl, kvs, k _ _ Bd.tab, _, Bd.val j y e hy he, kN _ _ _ hD (sz _) ⟨k.put nD, ?_⟩⟩
          rw [upd_same, take_snoc g, List.map_append, List.map_append]
          rfl
      · rintro H2 ⟨k2, hD⟩
        rw [List.length_map, List.take_of_length_le (by omega)] at hD
        refine ⟨dx, _, k2 _ _ Bd.ob, _, boardF_web _ _ _, _, sq_of hD, ?_, fun x dy nx nd ne => ?_⟩
        · rw [ones_sum, show (Str.ofString "").length = 0 by rfl]
          omega
        · rw [ones_join]
          have nd2 : L2.upd H2 dy (.own x) x = none := by rw [upd_ne (fun z => ne z.symm)]; exact nx
          have kk : Keeps H (L2.upd (L2.upd H2 dy (.own x)) x (.ins c_Board dy [])) := (k2.put (k2.free nd)).put (k2.free nx)
          have O2 := Bd.sg.put (i := i) hc
          refine ⟨x, wb, dy, Ps, T, putS sg i c, rfl, upd_same, Bd.web.keep kk, Bd.ok, by rw [O2.len]; omega, fun _ H' b' IB => ⟨rfl, h3 i c hPi rfl hc x H' (fun b o e => b' _ _ (fun z => by rw [z, k2.free nx] at e; cases e) (kk _ _ e)) ⟨_, IB⟩⟩, fun d n _ => absurd O2 n⟩
    · rw [Bd.no_ hz]
      simp only [Option.isSome_none, if_true]
      exact ⟨_, rfl, mk1 (h1 hz)⟩
theorem ok_empty {c_Web c_Board CS f f_Wln f_iBoard : Addr} {tk : Tok} {fd fd_Wln fd_iBoard : FuncData} (B : Bi mg) (D : Dn K mg "empty_board" s_emptyboard ["web"] f fd) (gc_FREE : mg "FREE" = some (.str (Str.ofString ".") tk))
    (SM_mWeb_len : Sm K c_Web "__len__" f_Wln) (G_mWeb_len : FnOk P w K mg base CX0 1 f_Wln fd_Wln ["self"] (spWln c_Web)) (B_mWeb_len : Binds K fd_Wln ["self"] [])
    (gc_Board : mg "Board" = some (.ref c_Board)) (MK_Board : Mk K c_Board f_iBoard) (G_iBoard : FnOk P w K mg base (L2N.CX P w) 6 f_iBoard fd_iBoard ["self", "web", "signs"] (spInB c_Web c_Board CS)) (B_iBoard : Binds K fd_iBoard ["self", "web", "signs"] []) : FnOk P w K mg base CX0 8 f fd ["web"] (spEmp c_Web c_Board) := by
  refine D.F.ok sc_emptyboard (fun vs H Q E h => ?_) (fun cdv A outer s H vs Q E hr h => ?_)
  · obtain ⟨wb, Ps, T, rfl, _⟩ := h
    rfl
  · obtain ⟨wb, Ps, T, rfl, hw, O, q⟩ := h
    refine ⟨_, (pss_one (ps_ret (pe_makeS MK_Board G_iBoard (hr.mono (by omega)) (by rfl) gc_Board B_iBoard passS0 (pa_cons (pv 0) (pa_cons (pe_op op_mulS (pe_glob (v := .str (Str.ofString ".")) (by rfl) gc_FREE ⟨_, rfl⟩) (pe_callB (call_lenO SM_mWeb_len G_mWeb_len (hr.mono (by omega)) B_mWeb_len pass0) (by rfl) B.len PySem.boot_len (pa_cons (pv 0) pa_nil))) pa_nil))))), ?_⟩
    obtain ⟨pl, tl', nd, dxw, ys, W⟩ := id hw
    have h20 := O.p20
    walk_at "rt"
    refine ⟨⟨_, _, W.ob⟩, wb, Ps, T, rfl, hw, Ps.length, rfl, by omega, 1, by decide +kernel, Ps.length, Int.le_refl _, by omega, by omega, by omega, fun x dy nx nd ne => ?_⟩
    have e1 : Txt.mul (Str.ofString ".") (Ps.length : Int) = S (List.replicate Ps.length 46) := by rw [show Str.ofString "." = S [46] from tl_inj (by decide +kernel), mul_one]
    rw [e1]
    have nd2 : L2.upd H dy (.own x) x = none := by rw [upd_ne (fun z => ne z.symm)]; exact nx
    have kk : Keeps H (L2.upd (L2.upd H dy (.own x)) x (.ins c_Board dy [])) := (Keeps.new nd).trans (Keeps.new nd2)
    have O2 : SgOk Ps.length (S (List.replicate Ps.length 46)) := ⟨by rw [tl_S, List.length_replicate], fun c hc => by
      rw [tl_S] at hc
      exact .inl (List.eq_of_mem_replicate hc)⟩
    exact ⟨x, wb, dy, Ps, T, _, rfl, upd_same, hw.keep kk, O, by rw [O2.len]; omega, fun _ H' b' IB => ⟨rfl, q x H' (fun b o e => b' _ _ (fun z => by rw [z, nx] at e; cases e) (kk _ _ e)) ⟨_, IB⟩⟩, fun d n _ => absurd O2 n⟩
end
end K01
namespace K01
open PySem PySem.Spec PyProof.Rows L2 TL HotExc L2H HotLc Tw WX
local macro_rules | `(tactic| walk_at "rd") => `(tactic| simp only [start1, tMakeS, rIndex, tMethP, tG1, rSetOfS, tDisp, tPairs, rSInK, tAug, ipI, wipe, isR, isBool, isInt, isStr, isLst, isTup, tAsg, gName, gSub, tVar, tC, tOp, tUn, tTest, tIfS, tRet, tRetN, tDrop, tB, tAnd, tOr, tNot, tAndV, tOrV, tNotV, tIf, tCB, tCons, tNil, tNext, tCall, tBM, tTup, tLst, rU, rInW, rNinW, Int.reduceNeg, tG, tG2, sP, tFldC, sFldC, tProp, tMeth, tMake, rOwnC, rLenO, rIsC, rNoT, tAddT, tSAddK, rSAddK, rSInK, rSet0K, rSet0T, rMinS, rMaxS, rSortedQ, rSortedT, rEqD, rNeD, rIxD, dcL_eq, dcZ_eq, lcO_eq, forE_eq, forT_eq, lcS_eq, ItX.rIterN, iOwn, List.append_nil, tDisp, tPairs, tCallS, tCallSD, tCallT, StX.tStar, tCallK, tCallKS, rTupOf, tDrop, rI0, rI, rEq, rNe, scal, forR_eq, forR2_eq, forS_eq, forL_eq, lcT_eq, lcRT_eq, lcS_eq, rLenX, rLenS, rListOf, tRevL, rMulS, rRepL, rCatL, rSumN, rMaxN, tBM0, rPop, tAug, ipI,  tPart, tNoPart, CwR.tReplC, rAllK, rInSg, rNinSg, sgn_inj, rAddS, rInSt, tChain, tM1, tM0, rSplitN, rJoinN, exists_eq, rIntI, rIntB, rIntS, rStrI, rAbs, rOrd, rMin, rMax, rIxL, rIxX, rSetL, rAppend, rIxS, rSlS, rSlL, tSl, List.map_cons, List.map_nil, List.replicate_succ, List.replicate_zero, List.length_cons, List.length_nil, Nat.reduceSub, Nat.reduceAdd, Nat.zero_add, Nat.sub_self, List.getElem?_cons_zero, List.getElem?_cons_succ, List.set_cons_zero, List.set_cons_succ, List.append_nil, List.nil_append, List.cons_append, Option.some.injEq, not_true_eq_false, reduceCtorEq, exists_eq_left', exists_eq_left, exists_eq', exists_and_left, exists_and_right, V.int.injEq, V.str.injEq, V.bl.injEq, V.ref.injEq, List.cons.injEq, and_true, true_and, and_assoc, decide_eq_true_eq, Bool.not_eq_true', decide_eq_false_iff_not, ite_true, ite_false, if_true, if_false, Bool.not_true, Bool.not_false, Bool.false_eq_true, eq_self_iff_true, reduceIte, ne_eq, Int.reduceEq, not_false_eq_true])
local macro_rules | `(tactic| walk_at "rt") => `(tactic| try walk_at "rd")
local macro_rules | `(tactic| walk_at "st") => `(tactic| (walk_at "rt"; refine r_seq ?_; walk_at "rt"))
local macro_rules | `(tactic| walk_at "hp") => `(tactic| first | assumption | exact upd_same | (rw [upd_ne (by assumption)]; walk_at "hp"))
local macro_rules | `(tactic| walk_at "ex1") => `(tactic| ((with_reducible refine Exists.intro ?w (And.intro ?hx ?_)); (case hx => first | exact sq_of (by walk_at "hp") | exact .inl (sq_of (by walk_at "hp")) | exact rfl | (show _ = some (HO.lst _); walk_at "hp"))))
local macro_rules | `(tactic| walk_at "ex") => `(tactic| repeat (first | walk_at "ex1" | walk_at "rd"))
abbrev s_badsigns : Stmt := topS 70
theorem sc_badsigns : FnScope ["store", "web", "signs", "spot", "kind", "odd"] ["store", "web"] (defScope s_badsigns) := ⟨rfl, rfl, rfl, by decide +kernel, rfl, by decide +kernel, by decide +kernel⟩
abbrev s_departs : Stmt := topS 75
theorem sc_departs : FnScope ["places", "signs", "at"] ["places", "signs"] (defScope s_departs) := ⟨rfl, rfl, rfl, by decide +kernel, rfl, by decide +kernel, by decide +kernel⟩
def spBadSg : Sp := fun vs H Q _ => ∃ (a c r p : Addr) (xs : List V) (y z : V), vs = [.ref a, .ref r] ∧ StoreAt H a c ∧ H r = some (.tup [.ref p, y, z]) ∧ H p = some (.lst xs) ∧ p ≠ a ∧ xs.length ≤ 30 ∧
  ∀ t (x : Str) (n : Int) H', StoreAt H' a c → But a H H' → H' t = some (.tup [.str x, .int n]) → (tl x).length ≤ 100 → Q (.ref t) H'
def spDep : Sp := fun vs H Q _ => ∃ (p : Addr) (ws : List V) (sg : Str), vs = [.ref p, .str sg] ∧ H p = some (.lst ws) ∧ ws.length ≤ 1000 ∧ (tl sg).length ≤ 1000 ∧ ∀ d, Dpt ws.length (tl sg) d → Q (.int (d : Int)) H
section
variable {P : Program} {w : World} {K : PySem.W.Frag} {mg : Str → Option Value} {base : Heap}
theorem ok_departs {f : Addr} {fd : FuncData} (B : Bi mg) (D : Dn K mg "_law_departs" s_departs ["places", "signs"] f fd) : FnOk P w K mg base CX0 1 f fd ["places", "signs"] spDep := by
  refine D.F.ok sc_departs (fun vs H Q E h => ?_) (fun cdv A outer s H vs Q E hr h => ?_)
  · obtain ⟨p, ws, sg, rfl, _⟩ := h
    rfl
  · obtain ⟨p, ws, sg, rfl, hp, lw, ls, q⟩ := h
    refine ⟨_, (pss_cons (ps_for PassesOwn.never rfl (pi_range1 (by rfl) B.range (pa_cons (pe_callB call_lenS (by rfl) B.len PySem.boot_len (pa_cons (pv 1) pa_nil)) pa_nil)) (pg_name (i := 2) sc_departs.nd rfl (.inl rfl)) (pss_one (ps_if (PW.pt (pw_or (pt_cmpR op_ge (pv 2) (pe_callB (call_lenXK (K := K)) (by rfl) B.len PySem.boot_len (pa_cons (pv 0) pa_nil)) (nomark _)) (pw_or1 (pt_cmpR op_ninSg (pe_ix ix_str (pv 1) (pv 2) (fun _ _ => rfl)) pe_str (by rfl))))) (pss_one (ps_ret (pv 2))) pss_nil)))
      (pss_one (ps_ret (pe_callB (call_minI rfl) (by rfl) B.min (by decide +kernel) (pa_cons (pe_callB call_lenS (by rfl) B.len PySem.boot_len (pa_cons (pv 1) pa_nil)) (pa_cons (pe_callB (call_lenXK (K := K)) (by rfl) B.len PySem.boot_len (pa_cons (pv 0) pa_nil)) pa_nil)))))), ?_⟩
    have hlen : sg.length = (tl sg).length := len_tl sg
    walk_at "st"
    refine ⟨line_of (by omega), by omega, by omega, ?_⟩
    refine r_range (fun i σ H' => (∃ x, σ = [some (.ref p), some (.str sg), x]) ∧ H' = H ∧ ∀ (j : Nat) c, j < i → (tl sg)[j]? = some c → j < ws.length ∧ sgn c) ⟨⟨_, rfl⟩, rfl, fun j c h => absurd h (Nat.not_lt_zero _)⟩ ?_ ?_
    · rintro i σ H' hi ⟨⟨x, rfl⟩, rfl, lo⟩ N kk
      have hi2 : i < (tl sg).length := by have : i < sg.length := by omega
                                          omega
      obtain ⟨c, hc⟩ : ∃ c, (tl sg)[i]? = some c := ⟨_, List.getElem?_eq_getElem hi2⟩
      have bad : ¬ (i < ws.length ∧ sgn c) → Q (V.int (0 + (i : Int))) H' := fun hb => by rw [Int.zero_add]; exact q i ⟨Nat.le_of_lt hi2, lo, fun c2 h2 => by rw [hc] at h2; cases h2; exact hb⟩
      have em : c ∈ (Str.ofString ".dl").cps.toList ↔ sgn c := by
        rw [show (Str.ofString ".dl").cps.toList = [46, 100, 108] from by decide +kernel]
        simp only [List.mem_cons, List.not_mem_nil, or_false]
        rfl
      walk_at "rt"
      refine ⟨ws, .inl (sq_of hp), ite2 (fun h => bad fun g => by omega) (fun h => ⟨line_of (by omega), c, by rw [Int.zero_add]; exact atI_nat hc, ite2 (fun h2 => bad fun g => h2 (em.mpr g.2)) (fun h2 => kk _ _ ⟨⟨_, rfl⟩, rfl, fun j c2 hj h3 => ?_⟩)⟩)⟩
      rcases Nat.lt_succ_iff_lt_or_eq.mp hj with hj | rfl
      · exact lo j c2 hj h3
      · rw [hc] at h3
        cases h3
        exact ⟨by omega, em.mp (Classical.not_not.mp h2)⟩
    · rintro σ H' ⟨⟨x, rfl⟩, rfl, lo⟩
      have lo : ∀ (j : Nat) c, j < (tl sg).length → (tl sg)[j]? = some c → j < ws.length ∧ sgn c := fun j c hj => lo j c (by omega)
      have dp : Dpt ws.length (tl sg) (tl sg).length := ⟨Nat.le_refl _, lo, fun c hc => absurd (lt_of_get hc) (Nat.lt_irrefl _)⟩
      have le : (tl sg).length ≤ ws.length := Classical.byContradiction fun g => by
        have := (lo ws.length _ (by omega) (List.getElem?_eq_getElem (by omega))).1
        omega
      walk_at "rt"
      refine ⟨line_of (by omega), ws, .inl (sq_of hp), ?_⟩
      rw [if_neg (by omega), hlen]
      exact q _ dp
theorem ok_badsigns {f f_take f_pick f_signs : Addr} {fd fd_take fd_pick fd_signs : FuncData} (B : Bi mg) (D : Dn K mg "_law_bad_signs" s_badsigns ["store", "web"] f fd) (D_take : Dn K mg "_law_take" s_take ["store", "many"] f_take fd_take) (D_pick : Dn K mg "_law_pick" s_pick ["store", "row"] f_pick fd_pick) (D_signs : Dn K mg "_law_signs" s_signs ["store", "web"] f_signs fd_signs)
    (G_take : FnOk P w K mg base CX0 2 f_take fd_take ["store", "many"] spTake) (G_pick : FnOk P w K mg base CX0 3 f_pick fd_pick ["store", "row"] spPick) (G_pickL : FnOk P w K mg base CX0 3 f_pick fd_pick ["store", "row"] spPickL) (G_signs : FnOk P w K mg base CX0 4 f_signs fd_signs ["store", "web"] spSigns) : FnOk P w K mg base CX0 5 f fd ["store", "web"] spBadSg := by
  refine D.F.ok sc_badsigns (fun vs H Q E h => ?_) (fun cdv A outer s H vs Q E hr h => ?_)
  · obtain ⟨a, c, r, p, xs, y, z, rfl, _⟩ := h
    rfl
  · obtain ⟨a, c, r, p, xs, y, z, rfl, S0, hr0, hp, pa, few, q⟩ := h
    refine ⟨_, (pss_cons (ps_set (i := 2) sc_badsigns.nd rfl (.inl rfl) (pe_call G_signs (hr.mono (by omega)) (by rfl) D_signs.g D_signs.F.kp D_signs.b .nil pass0 (pa_cons (pv 0) (pa_cons (pv 1) pa_nil))))
      (pss_cons (ps_set (i := 3) sc_badsigns.nd rfl (.inl rfl) (pe_call G_take (hr.mono (by omega)) (by rfl) D_take.g D_take.F.kp D_take.b .nil pass0 (pa_cons (pv 0) (pa_cons (pe_callB call_lenS (by rfl) B.len PySem.boot_len (pa_cons (pv 2) pa_nil)) pa_nil))))
      (pss_cons (ps_set (i := 4) sc_badsigns.nd rfl (.inl rfl) (pe_call G_take (hr.mono (by omega)) (by rfl) D_take.g D_take.F.kp D_take.b .nil pass0 (pa_cons (pv 0) (pa_cons pe_int pa_nil))))
      (pss_cons (ps_if (pt_cmpR op_eq (pv 4) pe_int (nomark _)) (pss_one (ps_ret (pe_tup (pa_cons (pe_slice sl_str (pv 2) po_none (po_some (pv 3))) (pa_cons (pv 3) pa_nil))))) pss_nil)
      (pss_cons (ps_if (pt_cmpR op_eq (pv 4) pe_int (nomark _)) (pss_one (ps_ret (pe_tup (pa_cons (pe_op op_addS (pv 2) (pe_call G_pickL (hr.mono (by omega)) (by rfl) D_pick.g D_pick.F.kp D_pick.b .nil pass0 (pa_cons (pv 0) (pa_cons (pe_lst (pa_cons pe_str (pa_cons pe_str (pa_cons pe_str (pa_cons pe_str (pa_cons pe_str (pa_cons pe_str pa_nil))))))) pa_nil)))) (pa_cons (pe_callB call_lenS (by rfl) B.len PySem.boot_len (pa_cons (pv 2) pa_nil)) pa_nil))))) pss_nil)
      (pss_cons (ps_set (i := 5) sc_badsigns.nd rfl (.inl rfl) (pe_call G_pick (hr.mono (by omega)) (by rfl) D_pick.g D_pick.F.kp D_pick.b .nil pass0 (pa_cons (pv 0) (pa_cons pe_str pa_nil))))
      (pss_cons (ps_if (pt_cmpR op_eq (pv 4) pe_int (nomark _)) (pss_one (ps_ret (pe_tup (pa_cons (pe_op op_addS (pe_slice sl_str (pv 2) po_none (po_some (pv 3))) (pv 5)) (pa_cons (pv 3) pa_nil))))) pss_nil)
      (pss_one (ps_ret (pe_tup (pa_cons (pe_op op_addS (pe_op op_addS (pe_op op_addS (pe_slice sl_str (pv 2) po_none (po_some (pv 3))) (pv 5)) (pe_slice sl_str (pv 2) (po_some (pe_op op_add (pv 3) pe_int)) po_none)) (pe_call G_pickL (hr.mono (by omega)) (by rfl) D_pick.g D_pick.F.kp D_pick.b .nil pass0 (pa_cons (pv 0) (pa_cons (pe_lst (pa_cons pe_str (pa_cons pe_str (pa_cons pe_str (pa_cons pe_str pa_nil))))) pa_nil)))) (pa_cons (pv 3) pa_nil)))))))))))), ?_⟩
    walk_at "st"
    refine ⟨a, c, r, p, xs, y, z, rfl, S0, hr0, hp, pa, few, fun v H1 S1 b1 ⟨l, e, hll, hls⟩ => ?_⟩
    subst e
    walk_at "st"
    have len : (S l).length = l.length := S_len l
    refine ⟨line_of (by omega), a, c, _, rfl, S1, by omega, fun v H2 S2 b2 ⟨spot, e, s0, s1⟩ => ?_⟩
    subst e
    walk_at "st"
    refine ⟨a, c, _, rfl, S2, by decide, fun v H3 S3 b3 ⟨kind, e, k0, k1⟩ => ?_⟩
    subst e
    have b13 := (b1.trans b2).trans b3
    have fin : ∀ (x : Str) (n : Int) H' (p : Addr), StoreAt H' a c → But a H H' → H' p = none → x.length ≤ 100 → Q (.ref p) (L2.upd H' p (.tup [.str x, .int n])) := fun x n H' p S' b' np hx => q p x n _ (S'.new np) (b'.trans (Keeps.but (Keeps.new np))) upd_same (by rw [← len_tl]; exact hx)
    have sz2 : 2 ≤ sizeLine := Nat.le_of_ble_eq_true rfl
    have cl := fun lo hi => cut_len (S l) lo hi
    walk_at "st"
    refine ite2 (fun _ => ⟨line_of (by omega), sz2, fun p np => fin _ _ _ p S3 b13 np (by have := cl none (some spot); omega)⟩) (fun _ => ?_)
    walk_at "st"
    refine ite2 (fun _ => ⟨Nat.le_of_ble_eq_true rfl, fun p np => ?_⟩) (fun _ => ?_)
    · have kp := Keeps.new (x := .lst [V.str (Str.ofString "d"), V.str (Str.ofString "."), V.str (Str.ofString "x"), V.str (Str.ofString " "), V.str (Str.ofString "\n"), V.str (Str.ofString "dl.")]) np
      refine ⟨a, c, p, _, rfl, S3.new np, upd_same, S3.ne1 np, by simp, by simp, fun v H4 S4 b4 hv => ?_⟩
      have key : ∃ z : Str, v = .str z ∧ z.length ≤ 3 := by
        simp only [List.mem_cons, List.not_mem_nil, or_false] at hv
        rcases hv with e | e | e | e | e | e <;> exact ⟨_, e, by decide +kernel⟩
      obtain ⟨z, rfl, hz⟩ := key
      exact ⟨z, rfl, line_of (by omega), line_of (by omega), sz2, fun p np => fin _ _ _ p S4 ((b13.trans (Keeps.but kp)).trans b4) np (by rw [app_len]; omega)⟩
    walk_at "st"
    refine ⟨a, c, _, rfl, S3, by decide +kernel, by decide +kernel, fun v H4 S4 b4 ⟨k, hk, e⟩ => ?_⟩
    subst e
    walk_at "st"
    have b14 := b13.trans b4
    have c1 := cl none (some spot)
    have c2 := cl (some (spot + 1)) none
    have k1 : ({ cps := #[k] } : Str).length = 1 := rfl
    have a1 := app_len (cutS (S l) none (some spot)) { cps := #[k] }
    have a2 := app_len (cutS (S l) none (some spot) ++ { cps := #[k] }) (cutS (S l) (some (spot + 1)) none)
    refine ite2 (fun _ => ⟨line_of (by omega), line_of (by omega), sz2, fun p np => fin _ _ _ p S4 b14 np (by omega)⟩) (fun _ => ?_)
    walk_at "rt"
    refine ⟨line_of (by omega), line_of (by omega), line_of (by omega), line_of (by omega), Nat.le_of_ble_eq_true rfl, fun p np => ?_⟩
    have kp := Keeps.new (x := .lst [V.str (Str.ofString ""), V.str (Str.ofString ""), V.str (Str.ofString "d"), V.str (Str.ofString ".x")]) np
    refine ⟨a, c, p, _, rfl, S4.new np, upd_same, S4.ne1 np, by simp, by simp, fun v H5 S5 b5 hv => ?_⟩
    have key : ∃ z : Str, v = .str z ∧ z.length ≤ 3 := by
      simp only [List.mem_cons, List.not_mem_nil, or_false] at hv
      rcases hv with e | e | e | e <;> exact ⟨_, e, by decide +kernel⟩
    obtain ⟨z, rfl, hz⟩ := key
    exact ⟨z, rfl, line_of (by omega), sz2, fun p np => fin _ _ _ p S5 ((b14.trans (Keeps.but kp)).trans b5) np (by rw [app_len]; omega)⟩
end
end K01
namespace K01
open PySem PySem.Spec PyProof.Rows L2 TL HotExc Tw WX
local macro_rules | `(tactic| walk_at "rd") => `(tactic| simp only [start1, tMethP, tG1, rSetOfS, tDisp, tPairs, rSInK, tAug, ipI, wipe, isR, isBool, isInt, isStr, isLst, isTup, tAsg, gName, gSub, tVar, tC, tOp, tUn, tTest, tIfS, tRet, tRetN, tDrop, tB, tAnd, tOr, tNot, tAndV, tOrV, tNotV, tIf, tCB, tCons, tNil, tNext, tCall, tBM, tTup, tLst, rU, rInW, rNinW, Int.reduceNeg, tG, tG2, sP, tFldC, sFldC, tProp, tMeth, tMake, rOwnC, rLenO, rIsC, rNoT, tAddT, tSAddK, rSAddK, rSInK, rSet0K, rSet0T, rMinS, rMaxS, rSortedQ, rSortedT, rEqD, rNeD, rIxD, dcL_eq, dcZ_eq, lcO_eq, forE_eq, forT_eq, lcS_eq, ItX.rIterN, iOwn, List.append_nil, tDisp, tPairs, tCallS, tCallSD, tCallT, StX.tStar, tCallK, tCallKS, rTupOf, tDrop, rI0, rI, rEq, rNe, scal, forR_eq, forR2_eq, forS_eq, forL_eq, lcT_eq, lcRT_eq, lcS_eq, rLenX, rLenS, rListOf, tRevL, rMulS, rRepL, rCatL, rSumN, rMaxN, tBM0, rPop, tAug, ipI,  tPart, tNoPart, CwR.tReplC, rAllK, rInSg, rNinSg, sgn_inj, rAddS, rInSt, tChain, tM1, tM0, rSplitN, rJoinN, exists_eq, rIntI, rIntB, rIntS, rStrI, rAbs, rOrd, rMin, rMax, rIxL, rIxX, rSetL, rAppend, rIxS, rSlS, rSlL, tSl, List.map_cons, List.map_nil, List.replicate_succ, List.replicate_zero, List.length_cons, List.length_nil, Nat.reduceSub, Nat.reduceAdd, Nat.zero_add, Nat.sub_self, List.getElem?_cons_zero, List.getElem?_cons_succ, List.set_cons_zero, List.set_cons_succ, List.append_nil, List.nil_append, List.cons_append, Option.some.injEq, not_true_eq_false, reduceCtorEq, exists_eq_left', exists_eq_left, exists_eq', exists_and_left, exists_and_right, V.int.injEq, V.str.injEq, V.bl.injEq, V.ref.injEq, List.cons.injEq, and_true, true_and, and_assoc, decide_eq_true_eq, Bool.not_eq_true', decide_eq_false_iff_not, ite_true, ite_false, if_true, if_false, Bool.not_true, Bool.not_false, Bool.false_eq_true, eq_self_iff_true, reduceIte, ne_eq, Int.reduceEq, not_false_eq_true])
local macro_rules | `(tactic| walk_at "rt") => `(tactic| try walk_at "rd")
local macro_rules | `(tactic| walk_at "st") => `(tactic| (walk_at "rt"; refine r_seq ?_; walk_at "rt"))
local macro_rules | `(tactic| walk_at "hp") => `(tactic| first | assumption | exact upd_same | (rw [upd_ne (by assumption)]; walk_at "hp"))
local macro_rules | `(tactic| walk_at "ex1") => `(tactic| ((with_reducible refine Exists.intro ?w (And.intro ?hx ?_)); (case hx => first | exact sq_of (by walk_at "hp") | exact .inl (sq_of (by walk_at "hp")) | exact rfl | (show _ = some (HO.lst _); walk_at "hp"))))
local macro_rules | `(tactic| walk_at "ex") => `(tactic| repeat (first | walk_at "ex1" | walk_at "rd"))
theorem keys_put {kvs : List (Key × V)} {us : List Str} {y : Str} (h : kvs.map (·.1) = us.map Sum.inr) (hy : y ∉ us) (v : V) : (putK kvs (Sum.inr y) v).map (·.1) = (us ++ [y]).map Sum.inr := by
  have no : ¬ (kvs.any fun kv => decide (kv.1 = Sum.inr y)) = true := fun z => by
    obtain ⟨kv, hkv, e⟩ := List.any_eq_true.mp z
    have e := of_decide_eq_true e
    have hm : kv.1 ∈ us.map Sum.inr := h ▸ List.mem_map.mpr ⟨kv, hkv, rfl⟩
    obtain ⟨u, hu, e2⟩ := List.mem_map.mp hm
    rw [e] at e2
    cases e2
    exact hy hu
  unfold putK
  rw [if_neg no, List.map_append, List.map_append, h]
  rfl
section
variable {P : Program} {w : World} {K : PySem.W.Frag} {mg : Str → Option Value} {base : Heap}
theorem odd3 {Ps W : List Str} {a b : Str} : oddIn Ps (a :: b :: W) = if a ∈ Ps then (if b ∈ Ps then oddIn Ps W else some b) else some a := by
  unfold oddIn
  by_cases ha : a ∈ Ps <;> by_cases hb : b ∈ Ps <;> simp [List.find?_cons, ha, hb]
theorem odd_none {Ps W : List Str} (h : oddIn Ps W = none) : ∀ y ∈ W, y ∈ Ps := fun y hy => by
  unfold oddIn at h
  have := List.find?_eq_none.mp h y hy
  simpa using this
end
end K01
namespace K01
open PySem PySem.Spec PyProof.Rows L2 TL HotExc L2H HotLc Tw WX
local macro_rules | `(tactic| walk_at "rd") => `(tactic| simp only [start1, tMethP, tG1, rSetOfS, tDisp, tPairs, rSInK, tAug, ipI, wipe, isR, isBool, isInt, isStr, isLst, isTup, tAsg, gName, gSub, tVar, tC, tOp, tUn, tTest, tIfS, tRet, tRetN, tDrop, tB, tAnd, tOr, tNot, tAndV, tOrV, tNotV, tIf, tCB, tCons, tNil, tNext, tCall, tBM, tTup, tLst, rU, rInW, rNinW, Int.reduceNeg, tG, tG2, sP, tFldC, sFldC, tProp, tMeth, tMake, rOwnC, rLenO, rIsC, rNoT, tAddT, tSAddK, rSAddK, rSInK, rSet0K, rSet0T, rMinS, rMaxS, rSortedQ, rSortedT, rEqD, rNeD, rIxD, dcL_eq, dcZ_eq, lcO_eq, forE_eq, forT_eq, lcS_eq, ItX.rIterN, iOwn, List.append_nil, tDisp, tPairs, tCallS, tCallSD, tCallT, StX.tStar, tCallK, tCallKS, rTupOf, tDrop, rI0, rI, rEq, rNe, scal, forR_eq, forR2_eq, forS_eq, forL_eq, lcT_eq, lcRT_eq, lcS_eq, rLenX, rLenS, rListOf, tRevL, rMulS, rRepL, rCatL, rSumN, rMaxN, tBM0, rPop, tAug, ipI,  tPart, tNoPart, CwR.tReplC, rAllK, rInSg, rNinSg, sgn_inj, rAddS, rInSt, tChain, tM1, tM0, rSplitN, rJoinN, exists_eq, rIntI, rIntB, rIntS, rStrI, rAbs, rOrd, rMin, rMax, rIxL, rIxX, rSetL, rAppend, rIxS, rSlS, rSlL, tSl, List.map_cons, List.map_nil, List.replicate_succ, List.replicate_zero, List.length_cons, List.length_nil, Nat.reduceSub, Nat.reduceAdd, Nat.zero_add, Nat.sub_self, List.getElem?_cons_zero, List.getElem?_cons_succ, List.set_cons_zero, List.set_cons_succ, List.append_nil, List.nil_append, List.cons_append, Option.some.injEq, not_true_eq_false, reduceCtorEq, exists_eq_left', exists_eq_left, exists_eq', exists_and_left, exists_and_right, V.int.injEq, V.str.injEq, V.bl.injEq, V.ref.injEq, List.cons.injEq, and_true, true_and, and_assoc, decide_eq_true_eq, Bool.not_eq_true', decide_eq_false_iff_not, ite_true, ite_false, if_true, if_false, Bool.not_true, Bool.not_false, Bool.false_eq_true, eq_self_iff_true, reduceIte, ne_eq, Int.reduceEq, not_false_eq_true])
local macro_rules | `(tactic| walk_at "rt") => `(tactic| try walk_at "rd")
local macro_rules | `(tactic| walk_at "st") => `(tactic| (walk_at "rt"; refine r_seq ?_; walk_at "rt"))
local macro_rules | `(tactic| walk_at "hp") => `(tactic| first | assumption | exact upd_same | (rw [upd_ne (by assumption)]; walk_at "hp"))
local macro_rules | `(tactic| walk_at "ex1") => `(tactic| ((with_reducible refine Exists.intro ?w (And.intro ?hx ?_)); (case hx => first | exact sq_of (by walk_at "hp") | exact .inl (sq_of (by walk_at "hp")) | exact rfl | (show _ = some (HO.lst _); walk_at "hp"))))
local macro_rules | `(tactic| walk_at "ex") => `(tactic| repeat (first | walk_at "ex1" | walk_at "rd"))
abbrev s_kinds : Stmt := topS 72
theorem sc_kinds : FnScope ["x", "names", "flags", "k"] ["x"] (defScope s_kinds) := ⟨rfl, rfl, rfl, by decide +kernel, rfl, by decide +kernel, by decide +kernel⟩
def excs : List String := ["TworoomsError", "BadNumber", "NoHand", "BadName", "TooMany", "NoEntry", "NoPlace", "SelfTie", "Repeated", "BadSigns", "BadText", "BadTree", "BadMap", "NotRight", "NoStone", "Stands", "Falls", "GameOver", "Occupied", "SelfTaking", "ComesBack", "BadDeed", "NothingDone", "BadRow"]
def flg (y x : String) : Bool := x == "ValueError" || (x == "TworoomsError" || x == y)
/-- what is known of the class x, asked of an instance of the class at D, whose name is y -/
def Kn (K : PySem.W.Frag) (mg : Str → Option Value) (D : Addr) (y x : String) : Prop := ∃ a, mg (Str.ofString x) = some (.ref a) ∧ PySem.W.kitOne K (.ref D) (.ref a) = some (flg y x)
def told (y : String) : List String := ("ValueError" :: excs).filter (flg y)
def spKinds (K : PySem.W.Frag) (D : Addr) (y : String) : Addr × Obj → Sp := fun p vs H Q _ => vs = [.ref p.1] ∧ ∃ dx fs, H dx = some (.xd fs) ∧ Zc (.ref D) (some dx) p.2 ∧ (∃ us, p.2.data = .fields us) ∧
  ∀ l H', (∀ b o, H b = some o → H' b = some o) → H' l = some (.lst ((told y).map fun x => V.str (Str.ofString x))) → Q (.ref l) H'
theorem flag_step {H Hn : Hp} {p1 p2 : Addr} {ns fl gl : List V} {G : Addr → Hp → Prop} (k : ∀ b o, H b = some o → Hn b = some o) (hn : Hn p1 = some (.lst ns)) (hf : Hn p2 = some (.lst fl)) (sz : fl.length + gl.length ≤ 1000)
    (q : ∀ b H', (∀ c o, H c = some o → H' c = some o) → H' p1 = some (.lst ns) → H' b = some (.lst (fl ++ gl)) → G b H') :
    gl.length ≤ sizeLine ∧ ∀ a, Hn a = none → ∃ xs, L2.upd Hn a (.lst gl) p2 = some (.lst xs) ∧ ∃ zs, L2.upd Hn a (.lst gl) a = some (.lst zs) ∧ xs.length + zs.length ≤ sizeLine ∧ ∀ b, L2.upd Hn a (.lst gl) b = none → G b (L2.upd (L2.upd Hn a (.lst gl)) b (.lst (xs ++ zs))) := by
  refine ⟨line_of (by omega), fun a na => ⟨fl, (upd_ne (kp_ne hf na)).trans hf, gl, upd_same, line_of (by omega), fun b nb => ?_⟩⟩
  exact q b _ (fun c o e => But0.new nb c o (But0.new na c o (k c o e))) (But0.new nb _ _ (But0.new na _ _ hn)) upd_same
theorem r_seqT {t u : TS} {D : Ends} {σ : L2.St} {H : Hp} (h : ∀ T : L2.St → Hp → Prop, (∀ σ' H', u D σ' H' → T σ' H') → t { D with nx := T } σ H) : tSeq t u D σ H := h (u D) fun _ _ h => h
theorem split_names : Txt.split (Str.ofString "ValueError TworoomsError BadNumber NoHand BadName TooMany NoEntry NoPlace SelfTie Repeated BadSigns" ++ Str.ofString " BadText BadTree BadMap NotRight NoStone Stands Falls GameOver Occupied SelfTaking ComesBack" ++ Str.ofString " BadDeed NothingDone BadRow") (Str.ofString " ") = ("ValueError" :: excs).map Str.ofString := by decide +kernel
section
variable {P : Program} {w : World} {K : PySem.W.Frag} {mg : Str → Option Value} {base : Heap}
theorem r_isP {D a c : Addr} {d : Option Addr} {b : Bool} {H : Hp} {Q : VK} (hk : PySem.W.kitOne K (.ref D) (.ref c) = some b) (hd : ∀ dx, d = some dx → ∃ fs, H dx = some (.xd fs)) (q : Q (.bl b) H) : rIsP K D a d [.ref a, .ref c] H Q :=
  ⟨_, rfl, .ref c, fun u r => r, b, hk, hd, q⟩
theorem r_isV {D a : Addr} {d : Option Addr} {b : Bool} {H : Hp} {Q : VK} (hk : PySem.W.kitOne K (.ref D) (.type "ValueError") = some b) (hd : ∀ dx, d = some dx → ∃ fs, H dx = some (.xd fs)) (q : Q (.bl b) H) : rIsP K D a d [.ref a, .ty "ValueError"] H Q :=
  ⟨_, rfl, .type "ValueError", fun u r => r, b, hk, hd, q⟩
theorem hot_of {X : Cx} {p : Addr × Obj} (h : Hot1 X.A p) (hp : p ∈ X.pn) : HotC X := ⟨p, h, hp⟩
theorem fin_kinds {H H10 : Hp} {p1 p10 p11 pe : Addr} {y : String} {Q : VK} (k10 : ∀ b o, H b = some o → H10 b = some o) (h10 : H10 p1 = some (.lst ((("ValueError" :: excs).map Str.ofString).map V.str)))
    (f10 : H10 p10 = some (.lst (("ValueError" :: excs).map fun x => V.bl (flg y x)))) (n11 : H10 p11 = none)
    (q : ∀ l H', (∀ b o, H b = some o → H' b = some o) → H' l = some (.lst ((told y).map fun x => V.str (Str.ofString x))) → Q (.ref l) H') :
    LcT (Itr 0 (((((("ValueError" :: excs).map Str.ofString).map V.str).length : Nat) : Int)).toNat) (gName 3) (tB (tOp (rIxL K) (tVar 2) (tVar 3))) (tOp (rIxL K) (tVar 1) (tVar 3)) [3] [some (.ref pe), some (.ref p1), some (.ref p10), none] H10 p11 (Q (.ref p11)) := by
  generalize hall : ("ValueError" :: excs) = all at h10 f10 ⊢
  have len : all.length = 25 := by rw [← hall]; decide
  have e25 : ((((all.map Str.ofString).map V.str).length : Nat) : Int).toNat = 25 := by rw [List.length_map, List.length_map, len]; rfl
  rw [e25]
  refine r_lcRT (fun i H' => H' p1 = some (.lst ((all.map Str.ofString).map V.str)) ∧ H' p10 = some (.lst (all.map fun x => V.bl (flg y x))) ∧ H' p11 = some (.lst (((all.take i).filter (flg y)).map fun x => V.str (Str.ofString x))) ∧ ∀ b o, H b = some o → H' b = some o) (fun x => rfl)
    ⟨But0.new n11 _ _ h10, But0.new n11 _ _ f10, upd_same, fun b o e => But0.new n11 b o (k10 b o e)⟩ ?_ ?_
  · rintro i H' hi ⟨a1, a2, a3, kp⟩ N M kN kM
    obtain ⟨x, hx⟩ : ∃ x, all[i]? = some x := ⟨_, List.getElem?_eq_getElem (by omega)⟩
    have x1 : atI ((all.map Str.ofString).map V.str) (0 + (i : Int)) = some (.str (Str.ofString x)) := by
      rw [Int.zero_add]
      exact atI_nat (by rw [List.getElem?_map, List.getElem?_map, hx]; rfl)
    have x2 : atI (all.map fun x => V.bl (flg y x)) (0 + (i : Int)) = some (.bl (flg y x)) := by
      rw [Int.zero_add]
      exact atI_nat (by rw [List.getElem?_map, hx]; rfl)
    have lf : ((all.take i).filter (flg y)).length ≤ i := Nat.le_trans (List.length_filter_le _ _) (by rw [List.length_take]; omega)
    walk_at "rd"
    refine ⟨_, sq_of a2, _, x2, _, rfl, ite2 (fun e => ⟨_, sq_of a1, _, x1, ?_⟩) (fun e => kM _ ⟨a1, a2, ?_, kp⟩)⟩
    · refine kN _ _ _ a3 (size_ok (by rw [List.length_map]; omega)) ⟨But0.put' a1 (fun z => ?_), But0.put' a2 (fun z => ?_), ?_, fun b o z => ?_⟩
      · rw [z, n11] at h10
        cases h10
      · rw [z, n11] at f10
        cases f10
      · rw [upd_same, List.take_succ, hx, List.filter_append, List.map_append]
        simp only [Option.toList_some, List.filter_cons, e, if_true, List.filter_nil, List.map_cons, List.map_nil]
      · have nb : b ≠ p11 := fun z' => by
          have z2 := k10 b o z
          rw [z', n11] at z2
          cases z2
        rw [upd_ne nb]
        exact kp b o z
    · have e : flg y x = false := by simpa using e
      rw [a3, List.take_succ, hx, List.filter_append]
      simp only [Option.toList_some, List.filter_cons, e, Bool.false_eq_true, if_false, List.filter_nil, List.append_nil]
  · rintro H' ⟨a1, a2, a3, kp⟩
    rw [← len, List.take_length] at a3
    refine q _ _ kp ?_
    unfold told
    rw [hall]
    exact a3
theorem ok_kinds {D f : Addr} {fd : FuncData} {y : String} (B : Bi mg) (B_ValueError : mg "ValueError" = none) (Df : Dn K mg "_law_kinds" s_kinds ["x"] f fd) (XC : ExcC K D) (kn : ∀ x ∈ excs, Kn K mg D y x) (kv : PySem.W.kitOne K (.ref D) (.type "ValueError") = some (flg y "ValueError")) :
    FnE P w K mg base CX0 1 f fd ["x"] (spKinds K D y) := by
  refine FnE.of Df.F sc_kinds (fun p vs H Q E h => ?_) (fun p cdv A outer s H vs Q E hot hr h => ?_)
  · obtain ⟨rfl, _⟩ := h
    rfl
  · obtain ⟨rfl, dx, fs, hdx, hz, hf, q⟩ := h
    obtain ⟨c_TworoomsError, gc_TworoomsError, k_TworoomsError⟩ := kn "TworoomsError" (by decide)
    obtain ⟨c_BadNumber, gc_BadNumber, k_BadNumber⟩ := kn "BadNumber" (by decide)
    obtain ⟨c_NoHand, gc_NoHand, k_NoHand⟩ := kn "NoHand" (by decide)
    obtain ⟨c_BadName, gc_BadName, k_BadName⟩ := kn "BadName" (by decide)
    obtain ⟨c_TooMany, gc_TooMany, k_TooMany⟩ := kn "TooMany" (by decide)
    obtain ⟨c_NoEntry, gc_NoEntry, k_NoEntry⟩ := kn "NoEntry" (by decide)
    obtain ⟨c_NoPlace, gc_NoPlace, k_NoPlace⟩ := kn "NoPlace" (by decide)
    obtain ⟨c_SelfTie, gc_SelfTie, k_SelfTie⟩ := kn "SelfTie" (by decide)
    obtain ⟨c_Repeated, gc_Repeated, k_Repeated⟩ := kn "Repeated" (by decide)
    obtain ⟨c_BadSigns, gc_BadSigns, k_BadSigns⟩ := kn "BadSigns" (by decide)
    obtain ⟨c_BadText, gc_BadText, k_BadText⟩ := kn "BadText" (by decide)
    obtain ⟨c_BadTree, gc_BadTree, k_BadTree⟩ := kn "BadTree" (by decide)
    obtain ⟨c_BadMap, gc_BadMap, k_BadMap⟩ := kn "BadMap" (by decide)
    obtain ⟨c_NotRight, gc_NotRight, k_NotRight⟩ := kn "NotRight" (by decide)
    obtain ⟨c_NoStone, gc_NoStone, k_NoStone⟩ := kn "NoStone" (by decide)
    obtain ⟨c_Stands, gc_Stands, k_Stands⟩ := kn "Stands" (by decide)
    obtain ⟨c_Falls, gc_Falls, k_Falls⟩ := kn "Falls" (by decide)
    obtain ⟨c_GameOver, gc_GameOver, k_GameOver⟩ := kn "GameOver" (by decide)
    obtain ⟨c_Occupied, gc_Occupied, k_Occupied⟩ := kn "Occupied" (by decide)
    obtain ⟨c_SelfTaking, gc_SelfTaking, k_SelfTaking⟩ := kn "SelfTaking" (by decide)
    obtain ⟨c_ComesBack, gc_ComesBack, k_ComesBack⟩ := kn "ComesBack" (by decide)
    obtain ⟨c_BadDeed, gc_BadDeed, k_BadDeed⟩ := kn "BadDeed" (by decide)
    obtain ⟨c_NothingDone, gc_NothingDone, k_NothingDone⟩ := kn "NothingDone" (by decide)
    obtain ⟨c_BadRow, gc_BadRow, k_BadRow⟩ := kn "BadRow" (by decide)
    have hin : (p.1, p.2) ∈ (cxH CX0 P w K mg base ["x", "names", "flags", "k"] "_law_kinds" (defScope s_kinds) f cdv A outer s H E p).pn := List.mem_singleton.mpr rfl
    refine ⟨_, (pss_cons (ps_set (i := 1) sc_kinds.nd rfl (.inr rfl) pe_str)
      (pss_cons (ps_set (i := 1) sc_kinds.nd rfl (.inr rfl) (pe_op op_addS (pv 1) pe_str))
      (pss_cons (ps_set (i := 1) sc_kinds.nd rfl (.inr rfl) (pe_m1 PySem.F.slot_str_split PySem.F.type_str_split mt_splitN (pe_op op_addS (pv 1) pe_str) pe_str))
      (pss_cons (ps_set (i := 2) sc_kinds.nd rfl (.inr rfl) (pe_lst (pa_cons (pe_callB (call_isP XC hin hz hf) (by rfl) B.isinstance (by decide +kernel) (pa_cons (pv 0) (pa_cons (pe_bltn (v := .ty "ValueError") (by rfl) B_ValueError (by decide +kernel) rfl) pa_nil))) (pa_cons (pe_callB (call_isP XC hin hz hf) (by rfl) B.isinstance (by decide +kernel) (pa_cons (pv 0) (pa_cons (pe_glob (v := .ref c_TworoomsError) (by rfl) gc_TworoomsError rfl) pa_nil))) (pa_cons (pe_callB (call_isP XC hin hz hf) (by rfl) B.isinstance (by decide +kernel) (pa_cons (pv 0) (pa_cons (pe_glob (v := .ref c_BadNumber) (by rfl) gc_BadNumber rfl) pa_nil))) (pa_cons (pe_callB (call_isP XC hin hz hf) (by rfl) B.isinstance (by decide +kernel) (pa_cons (pv 0) (pa_cons (pe_glob (v := .ref c_NoHand) (by rfl) gc_NoHand rfl) pa_nil))) pa_nil))))))
      (pss_cons (ps_set (i := 2) sc_kinds.nd rfl (.inr rfl) (pe_op op_catL (pv 2) (pe_lst (pa_cons (pe_callB (call_isP XC hin hz hf) (by rfl) B.isinstance (by decide +kernel) (pa_cons (pv 0) (pa_cons (pe_glob (v := .ref c_BadName) (by rfl) gc_BadName rfl) pa_nil))) (pa_cons (pe_callB (call_isP XC hin hz hf) (by rfl) B.isinstance (by decide +kernel) (pa_cons (pv 0) (pa_cons (pe_glob (v := .ref c_TooMany) (by rfl) gc_TooMany rfl) pa_nil))) (pa_cons (pe_callB (call_isP XC hin hz hf) (by rfl) B.isinstance (by decide +kernel) (pa_cons (pv 0) (pa_cons (pe_glob (v := .ref c_NoEntry) (by rfl) gc_NoEntry rfl) pa_nil))) (pa_cons (pe_callB (call_isP XC hin hz hf) (by rfl) B.isinstance (by decide +kernel) (pa_cons (pv 0) (pa_cons (pe_glob (v := .ref c_NoPlace) (by rfl) gc_NoPlace rfl) pa_nil))) pa_nil)))))))
      (pss_cons (ps_set (i := 2) sc_kinds.nd rfl (.inr rfl) (pe_op op_catL (pv 2) (pe_lst (pa_cons (pe_callB (call_isP XC hin hz hf) (by rfl) B.isinstance (by decide +kernel) (pa_cons (pv 0) (pa_cons (pe_glob (v := .ref c_SelfTie) (by rfl) gc_SelfTie rfl) pa_nil))) (pa_cons (pe_callB (call_isP XC hin hz hf) (by rfl) B.isinstance (by decide +kernel) (pa_cons (pv 0) (pa_cons (pe_glob (v := .ref c_Repeated) (by rfl) gc_Repeated rfl) pa_nil))) (pa_cons (pe_callB (call_isP XC hin hz hf) (by rfl) B.isinstance (by decide +kernel) (pa_cons (pv 0) (pa_cons (pe_glob (v := .ref c_BadSigns) (by rfl) gc_BadSigns rfl) pa_nil))) (pa_cons (pe_callB (call_isP XC hin hz hf) (by rfl) B.isinstance (by decide +kernel) (pa_cons (pv 0) (pa_cons (pe_glob (v := .ref c_BadText) (by rfl) gc_BadText rfl) pa_nil))) pa_nil)))))))
      (pss_cons (ps_set (i := 2) sc_kinds.nd rfl (.inr rfl) (pe_op op_catL (pv 2) (pe_lst (pa_cons (pe_callB (call_isP XC hin hz hf) (by rfl) B.isinstance (by decide +kernel) (pa_cons (pv 0) (pa_cons (pe_glob (v := .ref c_BadTree) (by rfl) gc_BadTree rfl) pa_nil))) (pa_cons (pe_callB (call_isP XC hin hz hf) (by rfl) B.isinstance (by decide +kernel) (pa_cons (pv 0) (pa_cons (pe_glob (v := .ref c_BadMap) (by rfl) gc_BadMap rfl) pa_nil))) (pa_cons (pe_callB (call_isP XC hin hz hf) (by rfl) B.isinstance (by decide +kernel) (pa_cons (pv 0) (pa_cons (pe_glob (v := .ref c_NotRight) (by rfl) gc_NotRight rfl) pa_nil))) (pa_cons (pe_callB (call_isP XC hin hz hf) (by rfl) B.isinstance (by decide +kernel) (pa_cons (pv 0) (pa_cons (pe_glob (v := .ref c_NoStone) (by rfl) gc_NoStone rfl) pa_nil))) pa_nil)))))))
      (pss_cons (ps_set (i := 2) sc_kinds.nd rfl (.inr rfl) (pe_op op_catL (pv 2) (pe_lst (pa_cons (pe_callB (call_isP XC hin hz hf) (by rfl) B.isinstance (by decide +kernel) (pa_cons (pv 0) (pa_cons (pe_glob (v := .ref c_Stands) (by rfl) gc_Stands rfl) pa_nil))) (pa_cons (pe_callB (call_isP XC hin hz hf) (by rfl) B.isinstance (by decide +kernel) (pa_cons (pv 0) (pa_cons (pe_glob (v := .ref c_Falls) (by rfl) gc_Falls rfl) pa_nil))) (pa_cons (pe_callB (call_isP XC hin hz hf) (by rfl) B.isinstance (by decide +kernel) (pa_cons (pv 0) (pa_cons (pe_glob (v := .ref c_GameOver) (by rfl) gc_GameOver rfl) pa_nil))) (pa_cons (pe_callB (call_isP XC hin hz hf) (by rfl) B.isinstance (by decide +kernel) (pa_cons (pv 0) (pa_cons (pe_glob (v := .ref c_Occupied) (by rfl) gc_Occupied rfl) pa_nil))) pa_nil)))))))
      (pss_cons (ps_set (i := 2) sc_kinds.nd rfl (.inr rfl) (pe_op op_catL (pv 2) (pe_lst (pa_cons (pe_callB (call_isP XC hin hz hf) (by rfl) B.isinstance (by decide +kernel) (pa_cons (pv 0) (pa_cons (pe_glob (v := .ref c_SelfTaking) (by rfl) gc_SelfTaking rfl) pa_nil))) (pa_cons (pe_callB (call_isP XC hin hz hf) (by rfl) B.isinstance (by decide +kernel) (pa_cons (pv 0) (pa_cons (pe_glob (v := .ref c_ComesBack) (by rfl) gc_ComesBack rfl) pa_nil))) (pa_cons (pe_callB (call_isP XC hin hz hf) (by rfl) B.isinstance (by decide +kernel) (pa_cons (pv 0) (pa_cons (pe_glob (v := .ref c_BadDeed) (by rfl) gc_BadDeed rfl) pa_nil))) pa_nil))))))
      (pss_cons (ps_set (i := 2) sc_kinds.nd rfl (.inr rfl) (pe_op op_catL (pv 2) (pe_lst (pa_cons (pe_callB (call_isP XC hin hz hf) (by rfl) B.isinstance (by decide +kernel) (pa_cons (pv 0) (pa_cons (pe_glob (v := .ref c_NothingDone) (by rfl) gc_NothingDone rfl) pa_nil))) (pa_cons (pe_callB (call_isP XC hin hz hf) (by rfl) B.isinstance (by decide +kernel) (pa_cons (pv 0) (pa_cons (pe_glob (v := .ref c_BadRow) (by rfl) gc_BadRow rfl) pa_nil))) pa_nil)))))
      (pss_one (ps_ret (pe_lcH (own := [("k", 3)]) (g := gName 3) (hot_of hot hin) sc_kinds.nd (pi_range1H (by rfl) B.range (pa_cons (pe_callB (call_lenXK (K := K)) (by rfl) B.len PySem.boot_len (pa_cons (pv 1) pa_nil)) pa_nil)) (blkOk_by (own := [("k", 3)]) (N := ["x", "names", "flags", "k"]) (sc := defScope s_kinds) (by decide +kernel)) (fun p hot => ⟨fun _ _ _ _ _ => pg_name (i := 3) sc_kinds.nd rfl (Or.inl rfl), fun _ _ _ _ _ => (pts_one (pt_val (pe_ix (ix_listK (K := K)) (pv 2) (pv 3) (fun _ _ => rfl)))), fun _ _ _ _ _ => (pe_ix (ix_listK (K := K)) (pv 1) (pv 3) (fun _ _ => rfl))⟩)))))))))))))), ?_⟩
    generalize hX : cxH CX0 P w K mg base ["x", "names", "flags", "k"] "_law_kinds" (defScope s_kinds) f cdv A outer s H E p = X at hin ⊢
    have hK : X.K = K := by rw [← hX]; rfl
    rw [hK]
    walk_at "st"
    walk_at "st"
    refine ⟨by decide +kernel, ?_⟩
    walk_at "st"
    refine ⟨by decide +kernel, by decide +kernel, by decide +kernel, fun p1 n1 => ?_⟩
    rw [split_names]
    have hd : ∀ {H' : Hp}, (∀ b o, H b = some o → H' b = some o) → ∀ d, some dx = some d → ∃ fs, H' d = some (.xd fs) := fun k d e => by
      cases e
      exact ⟨fs, k _ _ hdx⟩
    obtain ⟨H1, e1⟩ : ∃ z, z = L2.upd H p1 (.lst ((("ValueError" :: excs).map Str.ofString).map V.str)) := ⟨_, rfl⟩
    have k1 : ∀ b o, H b = some o → H1 b = some o := e1 ▸ But0.new n1
    have h1 : H1 p1 = some (.lst ((("ValueError" :: excs).map Str.ofString).map V.str)) := e1 ▸ upd_same
    rw [← e1]
    walk_at "st"
    refine r_isV kv (hd k1) (r_isP k_TworoomsError (hd k1) (r_isP k_BadNumber (hd k1) (r_isP k_NoHand (hd k1) ⟨by decide, fun p2 n2 => ?_⟩)))
    obtain ⟨H2, e2⟩ : ∃ z, z = L2.upd H1 p2 (.lst [.bl (flg y "ValueError"), .bl (flg y "TworoomsError"), .bl (flg y "BadNumber"), .bl (flg y "NoHand")]) := ⟨_, rfl⟩
    have k2 : ∀ b o, H b = some o → H2 b = some o := e2 ▸ fun b o z => But0.new n2 b o (k1 b o z)
    have h2 : H2 p1 = some (.lst ((("ValueError" :: excs).map Str.ofString).map V.str)) := e2 ▸ But0.new n2 _ _ h1
    have f2 : H2 p2 = some (.lst [.bl (flg y "ValueError"), .bl (flg y "TworoomsError"), .bl (flg y "BadNumber"), .bl (flg y "NoHand")]) := e2 ▸ upd_same
    rw [← e2]
    walk_at "st"
    refine r_isP k_BadName (hd k2) (r_isP k_TooMany (hd k2) (r_isP k_NoEntry (hd k2) (r_isP k_NoPlace (hd k2) ?_)))
    refine flag_step (gl := [.bl (flg y "BadName"), .bl (flg y "TooMany"), .bl (flg y "NoEntry"), .bl (flg y "NoPlace")]) k2 h2 f2 (Nat.le_of_ble_eq_true rfl) fun p3 H3 k3 h3 f3 => ?_
    walk_at "st"
    refine r_isP k_SelfTie (hd k3) (r_isP k_Repeated (hd k3) (r_isP k_BadSigns (hd k3) (r_isP k_BadText (hd k3) ?_)))
    refine flag_step (gl := [.bl (flg y "SelfTie"), .bl (flg y "Repeated"), .bl (flg y "BadSigns"), .bl (flg y "BadText")]) k3 h3 f3 (Nat.le_of_ble_eq_true rfl) fun p4 H4 k4 h4 f4 => ?_
    walk_at "st"
    refine r_isP k_BadTree (hd k4) (r_isP k_BadMap (hd k4) (r_isP k_NotRight (hd k4) (r_isP k_NoStone (hd k4) ?_)))
    refine flag_step (gl := [.bl (flg y "BadTree"), .bl (flg y "BadMap"), .bl (flg y "NotRight"), .bl (flg y "NoStone")]) k4 h4 f4 (Nat.le_of_ble_eq_true rfl) fun p5 H5 k5 h5 f5 => ?_
    walk_at "st"
    refine r_isP k_Stands (hd k5) (r_isP k_Falls (hd k5) (r_isP k_GameOver (hd k5) (r_isP k_Occupied (hd k5) ?_)))
    refine flag_step (gl := [.bl (flg y "Stands"), .bl (flg y "Falls"), .bl (flg y "GameOver"), .bl (flg y "Occupied")]) k5 h5 f5 (Nat.le_of_ble_eq_true rfl) fun p6 H6 k6 h6 f6 => ?_
    walk_at "st"
    refine r_isP k_SelfTaking (hd k6) (r_isP k_ComesBack (hd k6) (r_isP k_BadDeed (hd k6) ?_))
    refine flag_step (gl := [.bl (flg y "SelfTaking"), .bl (flg y "ComesBack"), .bl (flg y "BadDeed")]) k6 h6 f6 (Nat.le_of_ble_eq_true rfl) fun p7 H7 k7 h7 f7 => ?_
    walk_at "rt"
    refine r_seqT fun T hT => ?_
    walk_at "rt"
    refine r_isP k_NothingDone (hd k7) (r_isP k_BadRow (hd k7) ?_)
    refine flag_step (gl := [.bl (flg y "NothingDone"), .bl (flg y "BadRow")]) k7 h7 f7 (Nat.le_of_ble_eq_true rfl) fun p10 H10 k10 h10 f10 => hT _ _ ?_
    have f10 : H10 p10 = some (.lst (("ValueError" :: excs).map fun x => V.bl (flg y x))) := f10
    walk_at "rt"
    refine ⟨_, .inl (sq_of h10), by simp only [List.length_map]; decide, by simp only [List.length_map]; decide, fun p11 n11 => ?_⟩
    refine fin_kinds k10 h10 f10 n11 q
end
end K01
namespace K01
open PySem PySem.Spec PyProof.Rows L2 TL HotExc Tw WX
local macro_rules | `(tactic| walk_at "rd") => `(tactic| simp only [start1, wipe, isR, isBool, isInt, isStr, isLst, isTup, tAsg, gName, gSub, tVar, tC, tOp, tUn, tTest, tIfS, tRet, tRetN, tDrop, tB, tAnd, tOr, tNot, tAndV, tOrV, tNotV, tIf, tCB, tCons, tNil, tNext, tCall, tBM, tTup, tLst, rU, rInW, rNinW, Int.reduceNeg, tG, tG2, sP, tFldC, sFldC, tProp, tMeth, tMake, rOwnC, rLenO, rIsC, rNoT, tAddT, tSAddK, rSAddK, rSInK, rSet0K, rSet0T, rMinS, rMaxS, rSortedQ, rSortedT, rEqD, rNeD, rIxD, dcL_eq, dcZ_eq, lcO_eq, forE_eq, forT_eq, lcS_eq, ItX.rIterN, iOwn, List.append_nil, tDisp, tPairs, tCallS, tCallSD, tCallT, StX.tStar, tCallK, tCallKS, rTupOf, tDrop, rI0, rI, rEq, rNe, scal, forR_eq, forR2_eq, forS_eq, forL_eq, lcT_eq, lcRT_eq, lcS_eq, rLenX, rLenS, rListOf, tRevL, rMulS, rRepL, rCatL, rSumN, rMaxN, tBM0, rPop, tAug, ipI,  tPart, tNoPart, CwR.tReplC, rAllK, rInSg, rNinSg, sgn_inj, rAddS, rInSt, tChain, tM1, tM0, rSplitN, rJoinN, exists_eq, rIntI, rIntB, rIntS, rStrI, rAbs, rOrd, rMin, rMax, rIxL, rIxX, rSetL, rAppend, rIxS, rSlS, rSlL, tSl, List.map_cons, List.map_nil, List.replicate_succ, List.replicate_zero, List.length_cons, List.length_nil, Nat.reduceSub, Nat.reduceAdd, Nat.zero_add, Nat.sub_self, List.getElem?_cons_zero, List.getElem?_cons_succ, List.set_cons_zero, List.set_cons_succ, List.append_nil, List.nil_append, List.cons_append, Option.some.injEq, not_true_eq_false, reduceCtorEq, exists_eq_left', exists_eq_left, exists_eq', exists_and_left, exists_and_right, V.int.injEq, V.str.injEq, V.bl.injEq, V.ref.injEq, List.cons.injEq, and_true, true_and, and_assoc, decide_eq_true_eq, Bool.not_eq_true', decide_eq_false_iff_not, ite_true, ite_false, if_true, if_false, Bool.not_true, Bool.not_false, Bool.false_eq_true, eq_self_iff_true, reduceIte, ne_eq, Int.reduceEq, not_false_eq_true])
local macro_rules | `(tactic| walk_at "rt") => `(tactic| try walk_at "rd")
local macro_rules | `(tactic| walk_at "st") => `(tactic| (walk_at "rt"; refine r_seq ?_; walk_at "rt"))
local macro_rules | `(tactic| walk_at "hp") => `(tactic| first | assumption | exact upd_same | (rw [upd_ne (by assumption)]; walk_at "hp"))
local macro_rules | `(tactic| walk_at "ex1") => `(tactic| ((with_reducible refine Exists.intro ?w (And.intro ?hx ?_)); (case hx => first | exact sq_of (by walk_at "hp") | exact .inl (sq_of (by walk_at "hp")) | exact rfl | (show _ = some (HO.lst _); walk_at "hp"))))
local macro_rules | `(tactic| walk_at "ex") => `(tactic| repeat (first | walk_at "ex1" | walk_at "rd"))
abbrev s_like : Stmt := topS 71
theorem sc_like : FnScope ["one", "two", "k"] ["one", "two"] (defScope s_like) := ⟨rfl, rfl, rfl, by decide +kernel, rfl, by decide +kernel, by decide +kernel⟩
/-- data one of another -/
def spLike : Nat → Sp
  | 0 => fun _ _ _ _ => False
  | n + 1 => fun vs H Q _ => ∃ (x y : V) (A B : Addr → Prop) (d : Dat), vs = [x, y] ∧ At H A d x ∧ At H B d y ∧ d.dep ≤ n ∧ ∀ H', Keeps H H' → Q (.bl true) H'
theorem At.keepA {H H' : Hp} {A : Addr → Prop} {d : Dat} {x : V} (h : At H A d x) (k : Keeps H H') : At H' A d x := At.mono (fun _ h => h) (fun p o _ h => k p o h) _ _ h
theorem all_true (i : Nat) : (List.replicate i true).all id = true := by
  rw [List.all_eq_true]
  intro x hx
  rw [List.mem_replicate] at hx
  exact hx.2
/-- the rows of two alike -/
theorem like_rows {K : PySem.W.Frag} {n : Nat} {H : Hp} {A1 A2 : Addr → Prop} {l : List Dat} {a b : Addr} {xs ys : List V} {Q : VK} (La : AtL H A1 l xs) (Lb : AtL H A2 l ys) (hl : xs.length ≤ 1000000) (hm : ys.length ≤ 1000000) (hn : depL l + 1 ≤ n)
    (sa : ∀ H', Keeps H H' → SqL K H' a xs ∨ SqT K H' a xs) (sb : ∀ H', Keeps H H' → SqL K H' b ys ∨ SqT K H' b ys) (q : ∀ H', Keeps H H' → Q (.bl true) H') :
    ∃ us, (SqL K H a us ∨ SqT K H a us) ∧ ∃ ws, (SqL K H b ws ∨ SqT K H b ws) ∧ if (us.length : Int) = ws.length then ∃ us, (SqL K H a us ∨ SqT K H a us) ∧ -2 ^ 62 ≤ (us.length : Int) ∧ (us.length : Int) < 2 ^ 62 ∧ ∀ D, H D = none →
      LcT (Itr 0 (us.length : Int).toNat) (gName 2) tYes (tCall (spLike n) [] E0 (tCons (tOp (rIxX K) (tVar 0) (tVar 2)) (tCons (tOp (rIxX K) (tVar 1) (tVar 2)) tNil))) [2] [some (V.ref a), some (V.ref b), none] H D fun H1 => ∃ bs, SqL K H1 D (List.map V.bl bs) ∧ Q (V.bl (bs.all id)) H1
    else Q (V.bl false) H := by
  have ela := La.length
  have elb := Lb.length
  have id0 := Keeps.refl H
  refine ⟨xs, sa H id0, ys, sb H id0, ?_⟩
  rw [if_pos (by omega)]
  refine ⟨xs, sa H id0, by omega, by omega, fun Dd nD => ?_⟩
  refine r_lcRT (n := ((xs.length : Int)).toNat) (fun i H' => Keeps H H' ∧ H' Dd = some (.lst ((List.replicate i true).map V.bl))) (fun _ => rfl) ⟨Keeps.new nD, upd_same⟩ ?_ ?_
  · rintro i H' hi ⟨k, hD⟩ N M kN _
    have hi : i < xs.length := by omega
    simp only [tYes, if_pos]
    obtain ⟨d, hd⟩ : ∃ d, l[i]? = some d := ⟨_, List.getElem?_eq_getElem (by omega)⟩
    obtain ⟨v, hv, av⟩ := AtL.get l xs i d La hd
    obtain ⟨u, hu, au⟩ := AtL.get l ys i d Lb hd
    have a1 : atI xs (0 + (i : Int)) = some v := by rw [Int.zero_add]; exact atI_nat hv
    have a2 : atI ys (0 + (i : Int)) = some u := by rw [Int.zero_add]; exact atI_nat hu
    walk_at "rt"
    refine ⟨_, sa _ k, _, a1, _, sb _ k, _, a2, ?_⟩
    cases n with
    | zero => omega
    | succ n =>
      have hdep := dep_get l i d hd
      refine ⟨v, u, A1, A2, d, rfl, At.keepA av k, At.keepA au k, by omega, fun H2 k2 => kN _ H2 _ (k2 _ _ hD) (size_ok (by rw [List.length_map, List.length_replicate]; omega)) ⟨(k.trans k2).put nD, ?_⟩⟩
      rw [upd_same, List.replicate_succ', List.map_append]
      rfl
  · rintro H' ⟨k, hD⟩
    refine ⟨_, sq_of hD, ?_⟩
    rw [all_true]
    exact q H' k
section
variable {P : Program} {w : World} {K : PySem.W.Frag} {mg : Str → Option Value} {base : Heap}
theorem ok_like {f : Addr} {fd : FuncData} (B : Bi mg) (D : Dn K mg "_law_like" s_like ["one", "two"] f fd) (D_like : Dn K mg "_law_like" s_like ["one", "two"] f fd) (n k : Nat)
    (G_like : FnOk P w K mg base CX0 (k + 1) f fd ["one", "two"] (spLike n)) : FnOk P w K mg base CX0 (k + 2) f fd ["one", "two"] (spLike (n + 1)) := by
  refine D.F.ok sc_like (fun vs H Q E h => ?_) (fun cdv A outer s H vs Q E hr h => ?_)
  · obtain ⟨x, y, A, B, d, rfl, _⟩ := h
    rfl
  · obtain ⟨x, y, A1, A2, d, rfl, hd, hd2, hn, q⟩ := h
    refine ⟨_, (pss_cons (ps_if (PW.pt (pw_or (pt_val (pe_callB call_is_bool (by rfl) B.isinstance (by decide +kernel) (pa_cons (pv 0) (pa_cons (pe_bltn (v := .ty "bool") (by rfl) B.bool_ (by decide +kernel) rfl) pa_nil)))) (pw_or (pt_val (pe_callB call_is_bool (by rfl) B.isinstance (by decide +kernel) (pa_cons (pv 1) (pa_cons (pe_bltn (v := .ty "bool") (by rfl) B.bool_ (by decide +kernel) rfl) pa_nil)))) (pw_or (pt_cmpR op_isN (pv 0) pe_non (nomark _)) (pw_or1 (pt_cmpR op_isN (pv 1) pe_non (nomark _))))))) (pss_one (ps_ret (pe_and (pe_cmpR op_eq (pe_callB call_is_bool (by rfl) B.isinstance (by decide +kernel) (pa_cons (pv 0) (pa_cons (pe_bltn (v := .ty "bool") (by rfl) B.bool_ (by decide +kernel) rfl) pa_nil))) (pe_callB call_is_bool (by rfl) B.isinstance (by decide +kernel) (pa_cons (pv 1) (pa_cons (pe_bltn (v := .ty "bool") (by rfl) B.bool_ (by decide +kernel) rfl) pa_nil))) (nomark _)) (pe_and (pe_cmpR op_eq (pe_cmpR op_isN (pv 0) pe_non (nomark _)) (pe_cmpR op_isN (pv 1) pe_non (nomark _)) (nomark _)) (pe_one (pe_cmpR op_eq (pv 0) (pv 1) (nomark _))))))) pss_nil)
      (pss_cons (ps_if (PW.pt (pw_or (pt_val (pe_callB call_is_int (by rfl) B.isinstance (by decide +kernel) (pa_cons (pv 0) (pa_cons (pe_bltn (v := .ty "int") (by rfl) B.int_ (by decide +kernel) rfl) pa_nil)))) (pw_or1 (pt_val (pe_callB call_is_int (by rfl) B.isinstance (by decide +kernel) (pa_cons (pv 1) (pa_cons (pe_bltn (v := .ty "int") (by rfl) B.int_ (by decide +kernel) rfl) pa_nil))))))) (pss_one (ps_ret (pe_and (pe_callB call_is_int (by rfl) B.isinstance (by decide +kernel) (pa_cons (pv 0) (pa_cons (pe_bltn (v := .ty "int") (by rfl) B.int_ (by decide +kernel) rfl) pa_nil))) (pe_and (pe_callB call_is_int (by rfl) B.isinstance (by decide +kernel) (pa_cons (pv 1) (pa_cons (pe_bltn (v := .ty "int") (by rfl) B.int_ (by decide +kernel) rfl) pa_nil))) (pe_one (pe_cmpR op_eq (pv 0) (pv 1) (nomark _))))))) pss_nil)
      (pss_cons (ps_if (PW.pt (pw_or (pt_val (pe_callB call_is_str (by rfl) B.isinstance (by decide +kernel) (pa_cons (pv 0) (pa_cons (pe_bltn (v := .ty "str") (by rfl) B.str_ (by decide +kernel) rfl) pa_nil)))) (pw_or1 (pt_val (pe_callB call_is_str (by rfl) B.isinstance (by decide +kernel) (pa_cons (pv 1) (pa_cons (pe_bltn (v := .ty "str") (by rfl) B.str_ (by decide +kernel) rfl) pa_nil))))))) (pss_one (ps_ret (pe_and (pe_callB call_is_str (by rfl) B.isinstance (by decide +kernel) (pa_cons (pv 0) (pa_cons (pe_bltn (v := .ty "str") (by rfl) B.str_ (by decide +kernel) rfl) pa_nil))) (pe_and (pe_callB call_is_str (by rfl) B.isinstance (by decide +kernel) (pa_cons (pv 1) (pa_cons (pe_bltn (v := .ty "str") (by rfl) B.str_ (by decide +kernel) rfl) pa_nil))) (pe_one (pe_cmpR op_eq (pv 0) (pv 1) (nomark _))))))) pss_nil)
      (pss_cons (ps_if (PW.pt (pw_or (PW.pt (pw_and (pt_val (pe_callB call_is_list (by rfl) B.isinstance (by decide +kernel) (pa_cons (pv 0) (pa_cons (pe_bltn (v := .ty "list") (by rfl) B.list_ (by decide +kernel) rfl) pa_nil)))) (pw_and1 (pt_val (pe_callB call_is_list (by rfl) B.isinstance (by decide +kernel) (pa_cons (pv 1) (pa_cons (pe_bltn (v := .ty "list") (by rfl) B.list_ (by decide +kernel) rfl) pa_nil))))))) (pw_or1 (PW.pt (pw_and (pt_val (pe_callB call_is_tuple (by rfl) B.isinstance (by decide +kernel) (pa_cons (pv 0) (pa_cons (pe_bltn (v := .ty "tuple") (by rfl) B.tuple_ (by decide +kernel) rfl) pa_nil)))) (pw_and1 (pt_val (pe_callB call_is_tuple (by rfl) B.isinstance (by decide +kernel) (pa_cons (pv 1) (pa_cons (pe_bltn (v := .ty "tuple") (by rfl) B.tuple_ (by decide +kernel) rfl) pa_nil)))))))))) (pss_one (ps_ret (pe_and (pe_cmpR op_eq (pe_callB (call_lenXK (K := K)) (by rfl) B.len PySem.boot_len (pa_cons (pv 0) pa_nil)) (pe_callB (call_lenXK (K := K)) (by rfl) B.len PySem.boot_len (pa_cons (pv 1) pa_nil)) (nomark _)) (pe_one (pe_callB (call_allK (K := K)) (by rfl) B.all (by decide +kernel) (pa_cons (pe_lc (own := [("k", 2)]) (g := gName 2) (tt := tYes) (by rfl) sc_like.nd (pi_range1 (by rfl) B.range (pa_cons (pe_callB (call_lenXK (K := K)) (by rfl) B.len PySem.boot_len (pa_cons (pv 0) pa_nil)) pa_nil)) (blkOk_by (own := [("k", 2)]) (N := ["one", "two", "k"]) (sc := defScope s_like) (by decide +kernel)) (fun _ _ _ _ _ => pg_name (i := 2) sc_like.nd rfl (Or.inl rfl)) (fun _ _ _ _ _ => pts_nil) (fun _ _ _ _ _ => (pe_call G_like (hr.mono (by omega)) (by rfl) D_like.g D_like.F.kp D_like.b .nil pass0 (pa_cons (pe_ix (ix_sxK (K := K)) (pv 0) (pv 2) (fun _ _ => rfl)) (pa_cons (pe_ix (ix_sxK (K := K)) (pv 1) (pv 2) (fun _ _ => rfl)) pa_nil))))) pa_nil)))))) pss_nil)
      (pss_one (ps_ret pe_bl)))))), ?_⟩
    have hd' := hd
    have hd2' := hd2
    rcases d with _ | b | i | z | l | l
    case non =>
      simp only [At] at hd hd2
      subst hd hd2
      walk_at "st"
      refine ⟨A1, _, hd', ?_⟩
      walk_at "rt"
      refine ⟨A2, _, hd2', ?_⟩
      walk_at "rt"
      refine ⟨A1, _, hd', A2, _, hd2', ?_⟩
      exact q H (Keeps.refl _)
    case bl =>
      simp only [At] at hd hd2
      subst hd hd2
      walk_at "st"
      refine ⟨A1, _, hd', ?_⟩
      walk_at "rt"
      refine ⟨A1, _, hd', A2, _, hd2', ?_⟩
      exact q H (Keeps.refl _)
    case int =>
      simp only [At] at hd hd2
      subst hd hd2
      walk_at "st"
      refine ⟨A1, _, hd', ?_⟩
      walk_at "rt"
      refine ⟨A2, _, hd2', ?_⟩
      walk_at "st"
      refine ⟨A1, _, hd', ?_⟩
      walk_at "rt"
      refine ⟨A1, _, hd', ?_⟩
      walk_at "rt"
      refine ⟨A2, _, hd2', ?_⟩
      exact q H (Keeps.refl _)
    case str =>
      simp only [At] at hd hd2
      subst hd hd2
      walk_at "st"
      refine ⟨A1, _, hd', ?_⟩
      walk_at "rt"
      refine ⟨A2, _, hd2', ?_⟩
      walk_at "st"
      refine ⟨A1, _, hd', ?_⟩
      walk_at "rt"
      refine ⟨A2, _, hd2', ?_⟩
      walk_at "st"
      refine ⟨A1, _, hd', ?_⟩
      walk_at "rt"
      refine ⟨A1, _, hd', ?_⟩
      walk_at "rt"
      refine ⟨A2, _, hd2', ?_⟩
      exact q H (Keeps.refl _)
    case lst =>
      obtain ⟨a, xs, rfl, _, hx, hl, La⟩ := hd
      obtain ⟨b, ys, rfl, _, hy, hm, Lb⟩ := hd2
      have sa : ∀ H', Keeps H H' → SqL K H' a xs ∨ SqT K H' a xs := fun H' k => .inl (sq_of (k _ _ hx))
      have sb : ∀ H', Keeps H H' → SqL K H' b ys ∨ SqT K H' b ys := fun H' k => .inl (sq_of (k _ _ hy))
      walk_at "st"
      refine ⟨A1, _, hd', ?_⟩
      walk_at "rt"
      refine ⟨A2, _, hd2', ?_⟩
      walk_at "st"
      refine ⟨A1, _, hd', ?_⟩
      walk_at "rt"
      refine ⟨A2, _, hd2', ?_⟩
      walk_at "st"
      refine ⟨A1, _, hd', ?_⟩
      walk_at "rt"
      refine ⟨A2, _, hd2', ?_⟩
      walk_at "st"
      refine ⟨A1, _, hd', ?_⟩
      walk_at "rt"
      refine ⟨A2, _, hd2', ?_⟩
      walk_at "rt"
      exact like_rows La Lb hl hm (by rw [Dat.dep] at hn; exact hn) sa sb q
    case tup =>
      obtain ⟨a, xs, rfl, _, hx, hl, La⟩ := hd
      obtain ⟨b, ys, rfl, _, hy, hm, Lb⟩ := hd2
      have sa : ∀ H', Keeps H H' → SqL K H' a xs ∨ SqT K H' a xs := fun H' k => .inr (tup_at (k _ _ hx))
      have sb : ∀ H', Keeps H H' → SqL K H' b ys ∨ SqT K H' b ys := fun H' k => .inr (tup_at (k _ _ hy))
      walk_at "st"
      refine ⟨A1, _, hd', ?_⟩
      walk_at "rt"
      refine ⟨A2, _, hd2', ?_⟩
      walk_at "st"
      refine ⟨A1, _, hd', ?_⟩
      walk_at "rt"
      refine ⟨A2, _, hd2', ?_⟩
      walk_at "st"
      refine ⟨A1, _, hd', ?_⟩
      walk_at "rt"
      refine ⟨A2, _, hd2', ?_⟩
      walk_at "st"
      refine ⟨A1, _, hd', ?_⟩
      walk_at "rt"
      refine ⟨A1, _, hd', ?_⟩
      walk_at "rt"
      refine ⟨A2, _, hd2', ?_⟩
      walk_at "rt"
      exact like_rows La Lb hl hm (by rw [Dat.dep] at hn; exact hn) sa sb q
theorem ok_like0 {f : Addr} {fd : FuncData} (B : Bi mg) (D : Dn K mg "_law_like" s_like ["one", "two"] f fd) : FnOk P w K mg base CX0 1 f fd ["one", "two"] (spLike 0) :=
  D.F.ok sc_like (fun vs H Q E h => h.elim) (fun cdv A outer s H vs Q E hr h => h.elim)
theorem like_all {f : Addr} {fd : FuncData} (B : Bi mg) (D : Dn K mg "_law_like" s_like ["one", "two"] f fd) : ∀ n : Nat, FnOk P w K mg base CX0 (n + 1) f fd ["one", "two"] (spLike n)
  | 0 => ok_like0 B D
  | n + 1 => ok_like B D D n n (like_all B D n)
end
end K01
namespace K01
open PySem PySem.Spec PyProof.Rows L2 TL HotExc L2H HotLc Tw WX
local macro_rules | `(tactic| walk_at "rd") => `(tactic| simp only [start1, tMethP, tG1, rSetOfS, tDisp, tPairs, rSInK, tAug, ipI, wipe, isR, isBool, isInt, isStr, isLst, isTup, tAsg, gName, gSub, tVar, tC, tOp, tUn, tTest, tIfS, tRet, tRetN, tDrop, tB, tAnd, tOr, tNot, tAndV, tOrV, tNotV, tIf, tCB, tCons, tNil, tNext, tCall, tBM, tTup, tLst, rU, rInW, rNinW, Int.reduceNeg, tG, tG2, sP, tFldC, sFldC, tProp, tMeth, tMake, rOwnC, rLenO, rIsC, rNoT, tAddT, tSAddK, rSAddK, rSInK, rSet0K, rSet0T, rMinS, rMaxS, rSortedQ, rSortedT, rEqD, rNeD, rIxD, dcL_eq, dcZ_eq, lcO_eq, forE_eq, forT_eq, lcS_eq, ItX.rIterN, iOwn, List.append_nil, tDisp, tPairs, tCallS, tCallSD, tCallT, StX.tStar, tCallK, tCallKS, rTupOf, tDrop, rI0, rI, rEq, rNe, scal, forR_eq, forR2_eq, forS_eq, forL_eq, lcT_eq, lcRT_eq, lcS_eq, rLenX, rLenS, rListOf, tRevL, rMulS, rRepL, rCatL, rSumN, rMaxN, tBM0, rPop, tAug, ipI,  tPart, tNoPart, CwR.tReplC, rAllK, rInSg, rNinSg, sgn_inj, rAddS, rInSt, tChain, tM1, tM0, rSplitN, rJoinN, exists_eq, rIntI, rIntB, rIntS, rStrI, rAbs, rOrd, rMin, rMax, rIxL, rIxX, rSetL, rAppend, rIxS, rSlS, rSlL, tSl, List.map_cons, List.map_nil, List.replicate_succ, List.replicate_zero, List.length_cons, List.length_nil, Nat.reduceSub, Nat.reduceAdd, Nat.zero_add, Nat.sub_self, List.getElem?_cons_zero, List.getElem?_cons_succ, List.set_cons_zero, List.set_cons_succ, List.append_nil, List.nil_append, List.cons_append, Option.some.injEq, not_true_eq_false, reduceCtorEq, exists_eq_left', exists_eq_left, exists_eq', exists_and_left, exists_and_right, V.int.injEq, V.str.injEq, V.bl.injEq, V.ref.injEq, List.cons.injEq, and_true, true_and, and_assoc, decide_eq_true_eq, Bool.not_eq_true', decide_eq_false_iff_not, ite_true, ite_false, if_true, if_false, Bool.not_true, Bool.not_false, Bool.false_eq_true, eq_self_iff_true, reduceIte, ne_eq, Int.reduceEq, not_false_eq_true])
local macro_rules | `(tactic| walk_at "rt") => `(tactic| try walk_at "rd")
local macro_rules | `(tactic| walk_at "st") => `(tactic| (walk_at "rt"; refine r_seq ?_; walk_at "rt"))
local macro_rules | `(tactic| walk_at "hp") => `(tactic| first | assumption | exact upd_same | (rw [upd_ne (by assumption)]; walk_at "hp"))
local macro_rules | `(tactic| walk_at "ex1") => `(tactic| ((with_reducible refine Exists.intro ?w (And.intro ?hx ?_)); (case hx => first | exact sq_of (by walk_at "hp") | exact .inl (sq_of (by walk_at "hp")) | exact rfl | (show _ = some (HO.lst _); walk_at "hp"))))
local macro_rules | `(tactic| walk_at "ex") => `(tactic| repeat (first | walk_at "ex1" | walk_at "rd"))
abbrev s_due : Stmt := topS 73
theorem sc_due : FnScope ["kind", "values"] ["kind", "values"] (defScope s_due) := ⟨rfl, rfl, rfl, by decide +kernel, rfl, by decide +kernel, by decide +kernel⟩
/-- kinds(e), e the exception in slot i -/
def tKinds (D : Addr) (y : String) (a : Addr) (cls : Value) (d : Option Addr) (i : Nat) : TE := fun σ H Q => σ[i]? = some (some (.ref a)) ∧ cls = .ref D ∧ ∃ dx fs, d = some dx ∧ H dx = some (.xd fs) ∧
  ∀ l H', (∀ b o, H b = some o → H' b = some o) → H' l = some (.lst ((told y).map fun x => V.str (Str.ofString x))) → Q (.ref l) H'
theorem pe_kinds {X : Cx} {D f : Addr} {fd : FuncData} {y : String} {a : Addr} {oe : Obj} {cls : Value} {d : Option Addr} {pn : List (Addr × Obj)} {q1 q2 pos : Pos} {x : Str} {i : Nat} (F : FnE X.prog X.w X.K X.mg X.base CX0 1 f fd ["x"] (spKinds X.K D y)) (room : Room 1 X.A) (hz : L2N.Zn cls d oe) (hf : ∃ vs, oe.data = .fields vs)
    (hg : Gl X "_law_kinds") (hm : X.mg "_law_kinds" = some (.ref f)) (hk : PySem.W.keepIn X.K (.ref f) = true) (hb : Binds X.K fd ["x"] []) (hv : PE (X.suite a ((a, oe) :: pn)) (.Name x q1) (tVar i)) (hst : starEach [.Name x q1] X.env = [(false, eval (.Name x q1) X.env)] := by rfl) :
    PE (X.suite a ((a, oe) :: pn)) (.Call (.Name "_law_kinds" q2) [.Name x q1] [] pos) (tKinds D y a cls d i) := by
  have hot : Hot1 (X.suite a ((a, oe) :: pn)).A (a, oe) := by
    obtain ⟨us, hu⟩ := hf
    exact ⟨rfl, us, hu, hz.2.2 us hu⟩
  refine pe_imp (pe_callE (X := X.suite a ((a, oe) :: pn)) (E := fun _ _ _ _ => False) F ⟨room.dp, room.un⟩ hot List.mem_cons_self hg hm hk hb (fun σ pins H s e s' I c => False.elim c) (pa_cons hv pa_nil) (by decide) hst rfl) ?_
  rintro σ H Q ⟨h1, h2, dx, fs, h3, h4, q⟩
  exact ⟨_, h1, rfl, dx, fs, h4, by rw [← h2, ← h3]; exact hz.zc, hf, q⟩
/-! ### what a try tells -/
abbrev All : Addr → Prop := fun _ => True
def dStrs (l : List Str) : Dat := .lst (l.map Dat.str)
def dRaised (kind : Str) (ds : List Dat) : Dat := .tup [.str (Str.ofString "raised"), .tup ds, dStrs [Str.ofString "ValueError", Str.ofString "TworoomsError", kind]]
def dGave (d : Dat) : Dat := .tup [.str (Str.ofString "gave"), d]
theorem atl_strs {H : Hp} {A : Addr → Prop} : ∀ l : List Str, AtL H A (l.map Dat.str) (l.map V.str)
  | [] => rfl
  | _ :: l => ⟨_, _, rfl, rfl, atl_strs l⟩
theorem at_strs {H : Hp} {a : Addr} {l : List Str} (h : H a = some (.lst (l.map V.str))) (hl : l.length ≤ 1000000) : At H All (dStrs l) (.ref a) := at_lst h (by rw [List.length_map]; exact hl) (atl_strs l)
theorem atl_one {H : Hp} {A : Addr → Prop} {d : Dat} {v : V} (h : At H A d v) : AtL H A [d] [v] := ⟨v, [], rfl, h, rfl⟩
theorem told3 {y : String} (h : told y = ["ValueError", "TworoomsError", y]) : (told y).map (fun x => V.str (Str.ofString x)) = [Str.ofString "ValueError", Str.ofString "TworoomsError", Str.ofString y].map V.str := by rw [h]; rfl
/-- what was raised, put together -/
theorem at_raised {H : Hp} {r t l : Addr} {y : String} {ds : List Dat} {vs : List V} (e : told y = ["ValueError", "TworoomsError", y]) (h1 : H r = some (.tup [.str (Str.ofString "raised"), .ref t, .ref l])) (h2 : H t = some (.tup vs)) (hv : AtL H All ds vs) (few : vs.length ≤ 1000000) (h3 : H l = some (.lst ((told y).map fun x => V.str (Str.ofString x)))) : At H All (dRaised (Str.ofString y) ds) (.ref r) := by
  rw [told3 e] at h3
  exact at_tup h1 (Nat.le_of_ble_eq_true rfl) (atl_cons rfl (atl_cons (at_tup h2 few hv) (atl_one (at_strs h3 (Nat.le_of_ble_eq_true rfl)))))
def spDue : Sp := fun vs H Q _ => ∃ (y : Str) (t : Addr) (us : List V) (ds : List Dat), vs = [.str y, .ref t] ∧ H t = some (.tup us) ∧ AtL H All ds us ∧ us.length ≤ 1000000 ∧ ∀ r H', Keeps H H' → At H' All (dRaised y ds) (.ref r) → Q (.ref r) H'
section
variable {P : Program} {w : World} {K : PySem.W.Frag} {mg : Str → Option Value} {base : Heap}
theorem AtL.keepA {H H' : Hp} {A : Addr → Prop} {ds : List Dat} {xs : List V} (h : AtL H A ds xs) (k : Keeps H H') : AtL H' A ds xs := AtL.mono (fun _ h => h) (fun p o _ h => k p o h) _ _ h
theorem ok_due {f : Addr} {fd : FuncData} (D : Dn K mg "_law_due" s_due ["kind", "values"] f fd) : FnOk P w K mg base CX0 1 f fd ["kind", "values"] spDue := by
  refine D.F.ok sc_due (fun vs H Q E h => ?_) (fun cdv A outer s H vs Q E hr h => ?_)
  · obtain ⟨y, t, us, ds, rfl, _⟩ := h
    rfl
  · obtain ⟨y, t, us, ds, rfl, ht, hd, few, q⟩ := h
    refine ⟨_, (pss_one (ps_ret (pe_tup (pa_cons pe_str (pa_cons (pv 1) (pa_cons (pe_lst (pa_cons pe_str (pa_cons pe_str (pa_cons (pv 0) pa_nil)))) pa_nil)))))), ?_⟩
    walk_at "rt"
    refine ⟨Nat.le_of_ble_eq_true rfl, fun l nl => ⟨Nat.le_of_ble_eq_true rfl, fun r nr => q r _ ((Keeps.new nl).put (Keeps.free (Keeps.new nl) nr)) ?_⟩⟩
    have k := (Keeps.new (x := .lst [.str (Str.ofString "ValueError"), .str (Str.ofString "TworoomsError"), .str y]) nl).trans (Keeps.new (x := .tup [.str (Str.ofString "raised"), .ref t, .ref l]) nr)
    exact at_tup upd_same (Nat.le_of_ble_eq_true rfl) (atl_cons rfl (atl_cons (at_tup (k _ _ ht) few (hd.keepA k)) (atl_one (at_strs (l := [Str.ofString "ValueError", Str.ofString "TworoomsError", y]) (But0.new nr _ _ upd_same) (Nat.le_of_ble_eq_true rfl)))))
theorem lk_at {v : V} {s : Str} : ([(s, v)] : List (Str × V)).lookup s = some v := by simp [List.lookup]
theorem told_NoPlace : told "NoPlace" = ["ValueError", "TworoomsError", "NoPlace"] := by decide
end
end K01
/-! try with several except clauses, each with or without a name -/
namespace L2N
open PySem PySem.Spec PyProof.Rows L2
def endAs (i : Nat) (D : Ends) : Ends := { nx := fun σ' H' => D.nx (σ'.set i none) H', rt := D.rt, bk := fun σ' H' => D.bk (σ'.set i none) H', ct := fun σ' H' => D.ct (σ'.set i none) H' }
def wManyA (K : PySem.W.Frag) (Wout : WX) (D : Ends) : List (Value × Option Nat × (Addr → Value → Option Addr → TS)) → WX
  | [] => Wout
  | (c, some i, ts) :: r => fun cls d σ H => ∃ b, PySem.W.exmOne K cls c = some b ∧ (b = true → ∀ a, H a = none → ts a cls d (endAs i D) (σ.set i (some (.ref a))) H) ∧ (b = false → wManyA K Wout D r cls d σ H)
  | (c, none, ts) :: r => fun cls d σ H => ∃ b, PySem.W.exmOne K cls c = some b ∧ (b = true → ∀ a, H a = none → ts a cls d D σ H) ∧ (b = false → wManyA K Wout D r cls d σ H)
inductive HdsA (X : Cx) : List ExceptHandler → List (Value × Option Nat × (Addr → Value → Option Addr → TS)) → Prop
  | nil : HdsA X [] []
  | bare {x : Str} {c : Value} {ts : Addr → Value → Option Addr → TS} {b₀ : Stmt} {suite : List Stmt} {np pos' : Pos} {hds : List ExceptHandler} {l : List (Value × Option Nat × (Addr → Value → Option Addr → TS))} (hc : Names X x c)
      (hsu : ∀ (a : Addr) (oe : Obj) (cls : Value) (d : Option Addr) (pn : List (Addr × Obj)), Zn cls d oe → (∃ vs, oe.data = .fields vs) → PSs (X.suite a ((a, oe) :: pn)) (b₀ :: suite) (ts a cls d)) (r : HdsA X hds l) :
      HdsA X (.ExceptHandler (some (.Name x np)) none (b₀ :: suite) pos' :: hds) ((c, none, ts) :: l)
  | named {x n : Str} {i : Nat} {c : Value} {ts : Addr → Value → Option Addr → TS} {b₀ : Stmt} {suite : List Stmt} {np pos' : Pos} {hds : List ExceptHandler} {l : List (Value × Option Nat × (Addr → Value → Option Addr → TS))} (hi : X.N[i]? = some n) (hln : X.env.kindOf n = some .local) (hc : Names X x c)
      (hsu : ∀ (a : Addr) (oe : Obj) (cls : Value) (d : Option Addr) (pn : List (Addr × Obj)), Zn cls d oe → (∃ vs, oe.data = .fields vs) → PSs (X.suite a ((a, oe) :: pn)) (b₀ :: suite) (ts a cls d)) (r : HdsA X hds l) :
      HdsA X (.ExceptHandler (some (.Name x np)) (some n) (b₀ :: suite) pos' :: hds) ((c, some i, ts) :: l)
section
variable {X : Cx} {body : List Stmt} {h₀ : ExceptHandler} {hds : List ExceptHandler} {l : List (Value × Option Nat × (Addr → Value → Option Addr → TS))} {pos : Pos} {tb : WX → TS} {Wout : WX}
theorem ps_try_manyA (hs : X.stack = X.env :: X.outer) (hf : X.env.frame = some X.env.locals) (hN : X.N.Nodup) (tk : Takes X Wout)
    (hb : ∀ (W : WX) (pn : List (Addr × Obj)) (xe : Value → Shared → Prop), Takes (X.tr pn xe) W → PassesOwn (model X.prog X.w) X.A X.env xe → PSs (X.tr pn xe) body (tb W))
    (hh : HdsA X (h₀ :: hds) l) : PS X (.Try body (h₀ :: hds) [] [] pos) (fun D σ H => tb (wManyA X.K Wout D l) D σ H) := by
  refine ⟨fun pins s σ H D I h => ?_⟩
  have ok := I.ok
  have hfr : X.A.frames = some (X.env :: X.outer) := by rw [ok.frames, hs]
  refine wpAny_Try_except ?_
  refine wpAny_mono ((hb (wManyA X.K Wout D l) (X.pn ++ pins) (fun e s₁ => wpAny (model X.prog X.w) X.A (noteFrame e X.env) (fun _ s₂ => wpAny (model X.prog X.w) X.A (setFlight e none) (fun _ s₃ =>
    wpAny (model X.prog X.w) X.A (handleBy e X.env (h₀ :: hds)) (SP X pins D) X.xe s₃) X.xe s₂) X.xe s₁) (fun u s' xx => ?_) PassesOwn.looking).run [] s σ H D (I.toTry _) h) (fun f s1 hsp => ?_) (fun e s1 he => he)
  · -- the catch
    obtain ⟨a, B, sI, pins', σ', H', cls, d, rfl, J', nb, up, sky, na, os, ag, w⟩ := xx
    have J : Inv X pins σ' H' sI := J'.ofTry ok
    have sky' : Sky B (X.env :: X.outer) a (Zn cls d) X.env.locals s'.heap := by rw [← hs]; exact sky
    show wpAny (model X.prog X.w) X.A (noteFrame (.ref a) X.env) _ _ _
    refine Sky.land Zn.steady hfr hf sky' fun h3 fl3 up3 => ?_
    have J3 : Inv X pins σ' H' { s' with heap := h3 } := J.landed nb fl3.1 (up.trans up3) os ag
    obtain ⟨oe3, vs3, he3, hz3, hd3⟩ := fl3.there
    have notFr : ∀ {h : Heap} {o : Obj} {vs : Array Value}, h.FunFrames B (X.env :: X.outer) → h.get? a = some o → o.data = .fields vs → a ∉ frs (X.env :: X.outer) := fun {h o vs} ff e dd hm => by
      obtain ⟨_, o', e', hnf⟩ := ff.mem hm
      rw [e] at e'; cases e'
      exact hnf _ dd
    have nfr := notFr fl3.2.2.1 he3 hd3
    have nL : a ≠ X.env.locals := fun z => nfr (List.mem_filterMap.mpr ⟨X.env, List.mem_cons_self, by rw [hf, z]⟩)
    have nF : a ∉ X.fs := fun hm => by
      obtain ⟨e, he, q⟩ := List.mem_filterMap.mp hm
      exact nfr (List.mem_filterMap.mpr ⟨e, List.mem_cons_of_mem _ he, q⟩)
    have S3 := J3.suite he3 hd3 na nL nF
    have go : ∀ {hds' : List ExceptHandler} {l' : List (Value × Option Nat × (Addr → Value → Option Addr → TS))}, HdsA X hds' l' → wManyA X.K Wout D l' cls d σ' H' →
        wpAny (model X.prog X.w) X.A (handleBy (.ref a) X.env hds') (SP X pins D) X.xe { s' with heap := h3 } := by
      intro hds' l' hk
      induction hk with
      | nil =>
        intro w
        refine wpAny_handleBy_nil ?_
        obtain ⟨k1, k2, k3, oe, vs, T, oT, ts', he, hz, hd, h1, hr⟩ := id fl3
        unfold PySem.passOn
        refine wpAny_bind (wpAny_field he hd h1 ?_)
        rw [if_neg (show ¬ ((Value.ref T == Value.none) = true) from by simp)]
        have fin : wpAny (model X.prog X.w) X.A (setFlight (.ref a) X.env.frame) (fun _ s4 => wpAny (model X.prog X.w) X.A (throw (.ref a) : Sem Flow) (SP X pins D) X.xe s4) X.xe { s' with heap := h3 } := by
          rw [hf]
          refine HandSPX.setFlight_upZ fl3 fun h4 hh4 up4 => wpAny_throw (tk _ _ ?_)
          exact ⟨a, B, sI, pins, σ', H', cls, d, rfl, J, nb, (up.trans up3).trans up4, .inr (.inr (by rw [hs]; exact hh4)), na, os, ag, w⟩
        first
          | exact wpAny_bind (wpAny_pure (wpAny_bind fin))
          | exact wpAny_bind fin
      | @bare x c ts b₀ suite np pos' hds2 l2 hc hsu r ih =>
        intro w
        obtain ⟨b, hb1, hyes, hno⟩ := w
        refine wpAny_handleBy_cons (codeAny_handlers_test ?_) (by intro q; cases q)
        have LT : PySem.W.Looks (model X.prog X.w) h3 (typeOf (.ref a)) cls := fun A Q E s k q => wpAny_typeOf_ref (k _ _ he3) (by rw [hz3.1]; exact q)
        have LM := PySem.W.exm_one (M := model X.prog X.w) (J3.kIn) LT hb1
        have test : ∀ {Q : Value → Shared → Prop} {E : Value → Shared → Prop}, Q c { s' with heap := h3 } → wpAny (model X.prog X.w) (X.A.mark (some (.ref a))) (eval (.Name x np) X.env) Q E { s' with heap := h3 } := fun {Q E} q => by
          obtain ⟨hg, hdbg, hm | ⟨hm, hv, hnn⟩⟩ := hc
          · exact ld_glob (X := X.suite a ((a, oe3) :: (X.pn ++ pins))) S3 hg hm q hdbg
          · exact ld_blt (X := X.suite a ((a, oe3) :: (X.pn ++ pins))) S3 hg hm hv q hnn hdbg
        refine test (LM.here ?_)
        cases b with
        | true =>
          refine codeAny_handlers_suite ?_
          refine HandSPX.lands_againZ fl3 fun h4 fl4 up4 => ?_
          have J4 : Inv X pins σ' H' { s' with heap := h4 } := J.landed nb fl4.1 ((up.trans up3).trans up4) os ag
          obtain ⟨oe4, vs4, he4, hz4, hd4⟩ := fl4.there
          have S4 := J4.suite he4 hd4 na nL nF
          refine wpAny_mono ((hsu a oe4 cls d (X.pn ++ pins) hz4 ⟨_, hd4⟩).run [] _ _ H' _ S4 (hyes rfl a na)) (fun f s6 hsp => ?_) (fun _ _ z => False.elim z)
          cases f with
          | next =>
            obtain ⟨σ6, H6, S6, q6⟩ := hsp
            exact ⟨_, _, S6.unsuite ok, q6⟩
          | brk =>
            obtain ⟨σ6, H6, S6, q6⟩ := hsp
            exact ⟨_, _, S6.unsuite ok, q6⟩
          | cont =>
            obtain ⟨σ6, H6, S6, q6⟩ := hsp
            exact ⟨_, _, S6.unsuite ok, q6⟩
          | ret u =>
            obtain ⟨v6, σ6, H6, S6, r6, q6⟩ := hsp
            exact ⟨_, _, _, S6.unsuite ok, r6, q6⟩
        | false =>
          show wpAny _ X.A (handleBy (.ref a) X.env hds2) _ _ _
          exact ih (hno rfl)
      | @named x n i c ts b₀ suite np pos' hds2 l2 hi hln hc hsu r ih =>
        intro w
        obtain ⟨b, hb1, hyes, hno⟩ := w
        have hloc : Loc X.env.scope n := .inl hln
        refine wpAny_handleBy_cons (codeAny_handlers_test ?_) (by intro q; cases q)
        have LT : PySem.W.Looks (model X.prog X.w) h3 (typeOf (.ref a)) cls := fun A Q E s k q => wpAny_typeOf_ref (k _ _ he3) (by rw [hz3.1]; exact q)
        have LM := PySem.W.exm_one (M := model X.prog X.w) (J3.kIn) LT hb1
        have test : ∀ {Q : Value → Shared → Prop} {E : Value → Shared → Prop}, Q c { s' with heap := h3 } → wpAny (model X.prog X.w) (X.A.mark (some (.ref a))) (eval (.Name x np) X.env) Q E { s' with heap := h3 } := fun {Q E} q => by
          obtain ⟨hg, hdbg, hm | ⟨hm, hv, hnn⟩⟩ := hc
          · exact ld_glob (X := X.suite a ((a, oe3) :: (X.pn ++ pins))) S3 hg hm q hdbg
          · exact ld_blt (X := X.suite a ((a, oe3) :: (X.pn ++ pins))) S3 hg hm hv q hnn hdbg
        refine test (LM.here ?_)
        cases b with
        | true =>
          refine codeAny_handlers_suite_as ?_
          refine HandSPX.lands_againZ fl3 fun h4 fl4 up4 => ?_
          have J4 : Inv X pins σ' H' { s' with heap := h4 } := J.landed nb fl4.1 ((up.trans up3).trans up4) os ag
          obtain ⟨oe4, vs4, he4, hz4, hd4⟩ := fl4.there
          have S4 := J4.suite he4 hd4 na nL nF
          refine store_ok (X := X.suite a ((a, oe4) :: (X.pn ++ pins))) (v := .ref a) S4 hN hi hloc rfl (fun s5 S5 => ?_) (.inr hln)
          refine wpAny_mono ((hsu a oe4 cls d (X.pn ++ pins) hz4 ⟨_, hd4⟩).run [] s5 _ H' _ S5 (hyes rfl a na)) (fun f s6 hsp => ?_) (fun _ _ z => False.elim z)
          have end_ : ∀ {σ6 : L2.St} {H6 : Hp} {Q : Shared → Prop}, Inv (X.suite a ((a, oe4) :: (X.pn ++ pins))) [] σ6 H6 s6 → (∀ s7, Inv X pins (σ6.set i none) H6 s7 → Q s7) →
              wpAny (model X.prog X.w) X.A (do bindName X.env n .none; unbindBehindTheSuite X.env n pos') (fun _ s7 => Q s7) X.xe s6 := fun {σ6 H6 Q} S6 hq => gone_ok (S6.unsuite ok) hN hi hln hq
          cases f with
          | next =>
            obtain ⟨σ6, H6, S6, q6⟩ := hsp
            exact end_ S6 fun s7 J7 => ⟨_, _, J7, q6⟩
          | brk =>
            obtain ⟨σ6, H6, S6, q6⟩ := hsp
            exact end_ S6 fun s7 J7 => ⟨_, _, J7, q6⟩
          | cont =>
            obtain ⟨σ6, H6, S6, q6⟩ := hsp
            exact end_ S6 fun s7 J7 => ⟨_, _, J7, q6⟩
          | ret u =>
            obtain ⟨v6, σ6, H6, S6, r6, q6⟩ := hsp
            exact end_ S6 fun s7 J7 => ⟨_, _, _, J7, r6, q6⟩
        | false =>
          show wpAny _ X.A (handleBy (.ref a) X.env hds2) _ _ _
          exact ih (hno rfl)
    exact go hh w
  · cases f with
    | next =>
      obtain ⟨σ', H', J', q⟩ := hsp
      exact wpAny_execs_nil ⟨σ', H', J'.ofTry ok, q⟩
    | brk =>
      obtain ⟨σ', H', J', q⟩ := hsp
      exact ⟨σ', H', J'.ofTry ok, q⟩
    | cont =>
      obtain ⟨σ', H', J', q⟩ := hsp
      exact ⟨σ', H', J'.ofTry ok, q⟩
    | ret u =>
      obtain ⟨v, σ', H', J', r, q⟩ := hsp
      exact ⟨v, σ', H', J'.ofTry ok, r, q⟩
end
end L2N
namespace K01
open PySem PySem.Spec PyProof.Rows L2 TL HotExc L2H HotLc Tw WX
local macro_rules | `(tactic| walk_at "rd") => `(tactic| simp only [start1, tMakeS, rIndex, tMethP, tG1, rSetOfS, tDisp, tPairs, rSInK, tAug, ipI, wipe, isR, isBool, isInt, isStr, isLst, isTup, tAsg, gName, gSub, tVar, tC, tOp, tUn, tTest, tIfS, tRet, tRetN, tDrop, tB, tAnd, tOr, tNot, tAndV, tOrV, tNotV, tIf, tCB, tCons, tNil, tNext, tCall, tBM, tTup, tLst, rU, rInW, rNinW, Int.reduceNeg, tG, tG2, sP, tFldC, sFldC, tProp, tMeth, tMake, rOwnC, rLenO, rIsC, rNoT, tAddT, tSAddK, rSAddK, rSInK, rSet0K, rSet0T, rMinS, rMaxS, rSortedQ, rSortedT, rEqD, rNeD, rIxD, dcL_eq, dcZ_eq, lcO_eq, forE_eq, forT_eq, lcS_eq, ItX.rIterN, iOwn, List.append_nil, tDisp, tPairs, tCallS, tCallSD, tCallT, StX.tStar, tCallK, tCallKS, rTupOf, tDrop, rI0, rI, rEq, rNe, scal, forR_eq, forR2_eq, forS_eq, forL_eq, lcT_eq, lcRT_eq, lcS_eq, rLenX, rLenS, rListOf, tRevL, rMulS, rRepL, rCatL, rSumN, rMaxN, tBM0, rPop, tAug, ipI,  tPart, tNoPart, CwR.tReplC, rAllK, rInSg, rNinSg, sgn_inj, rAddS, rInSt, tChain, tM1, tM0, rSplitN, rJoinN, exists_eq, rIntI, rIntB, rIntS, rStrI, rAbs, rOrd, rMin, rMax, rIxL, rIxX, rSetL, rAppend, rIxS, rSlS, rSlL, tSl, List.map_cons, List.map_nil, List.replicate_succ, List.replicate_zero, List.length_cons, List.length_nil, Nat.reduceSub, Nat.reduceAdd, Nat.zero_add, Nat.sub_self, List.getElem?_cons_zero, List.getElem?_cons_succ, List.set_cons_zero, List.set_cons_succ, List.append_nil, List.nil_append, List.cons_append, Option.some.injEq, not_true_eq_false, reduceCtorEq, exists_eq_left', exists_eq_left, exists_eq', exists_and_left, exists_and_right, V.int.injEq, V.str.injEq, V.bl.injEq, V.ref.injEq, List.cons.injEq, and_true, true_and, and_assoc, decide_eq_true_eq, Bool.not_eq_true', decide_eq_false_iff_not, ite_true, ite_false, if_true, if_false, Bool.not_true, Bool.not_false, Bool.false_eq_true, eq_self_iff_true, reduceIte, ne_eq, Int.reduceEq, not_false_eq_true])
local macro_rules | `(tactic| walk_at "rt") => `(tactic| try walk_at "rd")
local macro_rules | `(tactic| walk_at "st") => `(tactic| (walk_at "rt"; refine r_seq ?_; walk_at "rt"))
local macro_rules | `(tactic| walk_at "hp") => `(tactic| first | assumption | exact upd_same | (rw [upd_ne (by assumption)]; walk_at "hp"))
local macro_rules | `(tactic| walk_at "ex1") => `(tactic| ((with_reducible refine Exists.intro ?w (And.intro ?hx ?_)); (case hx => first | exact sq_of (by walk_at "hp") | exact .inl (sq_of (by walk_at "hp")) | exact rfl | (show _ = some (HO.lst _); walk_at "hp"))))
local macro_rules | `(tactic| walk_at "ex") => `(tactic| repeat (first | walk_at "ex1" | walk_at "rd"))
abbrev s_toldboard : Stmt := topS 76
theorem sc_toldboard : FnScope ["web", "signs", "board", "e"] ["web", "signs"] (defScope s_toldboard) := ⟨rfl, rfl, rfl, by decide +kernel, rfl, by decide +kernel, by decide +kernel⟩
abbrev s_toldsign : Stmt := topS 77
theorem sc_toldsign : FnScope ["board", "place", "told", "e"] ["board", "place"] (defScope s_toldsign) := ⟨rfl, rfl, rfl, by decide +kernel, rfl, by decide +kernel, by decide +kernel⟩
abbrev s_toldhand : Stmt := topS 78
theorem sc_toldhand : FnScope ["board", "place", "told", "e"] ["board", "place"] (defScope s_toldhand) := ⟨rfl, rfl, rfl, by decide +kernel, rfl, by decide +kernel, by decide +kernel⟩
abbrev s_toldput : Stmt := topS 79
theorem sc_toldput : FnScope ["board", "place", "sign", "put", "e"] ["board", "place", "sign"] (defScope s_toldput) := ⟨rfl, rfl, rfl, by decide +kernel, rfl, by decide +kernel, by decide +kernel⟩
/-- a board on a known web -/
def BdW (CW CB : Addr) (H : Hp) (b w : Addr) (Ps : List Str) (T : List (Str × Str)) (sg : Str) : Prop := ∃ d dx kvs, BoardAt CW CB H b w d dx kvs Ps T sg
section
variable {CW CB b w : Addr} {H H' : Hp} {Ps : List Str} {T : List (Str × Str)} {sg : Str}
theorem BdW.is (h : BdW CW CB H b w Ps T sg) : IsBoard CW CB H b Ps T sg := ⟨w, h⟩
theorem BdW.keep (h : BdW CW CB H b w Ps T sg) (k : Keeps H H') : BdW CW CB H' b w Ps T sg := let ⟨d, dx, kvs, B⟩ := h; ⟨d, dx, kvs, B.keep k⟩
theorem BdW.updL {p : Addr} {xs : List V} {o : HO} (h : BdW CW CB H b w Ps T sg) (hp : H p = some (.lst xs)) (hw : IsWeb CW (L2.upd H p o) w Ps T) : BdW CW CB (L2.upd H p o) b w Ps T sg := by
  obtain ⟨d, dx, kvs, B⟩ := h
  exact ⟨d, dx, kvs, (upd_ne (fun z => by have := B.ob; rw [z, hp] at this; cases this)).trans B.ob, hw, (upd_ne (fun z => by have := B.tab; rw [z, hp] at this; cases this)).trans B.tab, B.val, B.dom, B.ok, B.sg⟩
end
theorem told_BadSigns : told "BadSigns" = ["ValueError", "TworoomsError", "BadSigns"] := by decide
def spToldB (CW CB : Addr) : Sp := fun vs H Q _ => ∃ w sg Ps T, vs = [.ref w, .str sg] ∧ IsWeb CW H w Ps T ∧ WebOk Ps T ∧ (tl sg).length ≤ 1000 ∧
  (SgOk Ps.length sg → ∀ r b H', Keeps H H' → H' r = some (.tup [.non, .ref b]) → BdW CW CB H' b w Ps T sg → Q (.ref r) H') ∧
  (¬ SgOk Ps.length sg → ∀ d, Dpt Ps.length (tl sg) d → ∀ r t H', Keeps H H' → H' r = some (.tup [.ref t, .non]) → At H' All (dRaised (Str.ofString "BadSigns") [.int d]) (.ref t) → Q (.ref r) H')
def spToldS (CW CB : Addr) (g : Nat → Dat) : Sp := fun vs H Q _ => ∃ b z Ps T sg, vs = [.ref b, .str z] ∧ IsBoard CW CB H b Ps T sg ∧
  (∀ (i : Nat) c, Ps[i]? = some z → (tl sg)[i]? = some c → ∀ r H', Keeps H H' → At H' All (dGave (g c)) (.ref r) → Q (.ref r) H') ∧
  (z ∉ Ps → ∀ r H', Keeps H H' → At H' All (dRaised (Str.ofString "NoPlace") [.str z]) (.ref r) → Q (.ref r) H')
def spToldP (CW CB : Addr) : Sp := fun vs H Q _ => ∃ b z s Ps T sg, vs = [.ref b, .str z, .str s] ∧ IsBoard CW CB H b Ps T sg ∧
  (z ∉ Ps → ∀ r t H', Keeps H H' → H' r = some (.tup [.ref t, .non]) → At H' All (dRaised (Str.ofString "NoPlace") [.str z]) (.ref t) → Q (.ref r) H') ∧
  (z ∈ Ps → s ∉ signs3 → ∀ r t H', Keeps H H' → H' r = some (.tup [.ref t, .non]) → At H' All (dRaised (Str.ofString "BadSigns") [.int 0]) (.ref t) → Q (.ref r) H') ∧
  (∀ (i c : Nat), Ps[i]? = some z → s = ⟨#[c]⟩ → sgn c → ∀ r m H', Keeps H H' → H' r = some (.tup [.non, .ref m]) → IsBoard CW CB H' m Ps T (putS sg i c) → Q (.ref r) H')
section
variable {P : Program} {w : World} {K : PySem.W.Frag} {mg : Str → Option Value} {base : Heap}
/-- the suite of a try that tells an exception of one value -/
theorem suite_v {y : String} {fld : Str} (ty : told y = ["ValueError", "TworoomsError", y]) {H : Hp} {d : Addr} {u : V} {du : Dat} {Q : VK} (hu : ∀ H, At H All du u) (nd : H d = none) (q : ∀ r H', Keeps H H' → H' r ≠ none → At H' All (dRaised (Str.ofString y) [du]) (.ref r) → Q (.ref r) H') : ∀ (p2 : Addr), L2.upd H d (.xd [(fld, u)]) p2 = none → ∀ (l : Addr) (H' : Hp), (∀ b o, L2.upd (L2.upd H d (.xd [(fld, u)])) p2 (.tup [u]) b = some o → H' b = some o) →
    H' l = some (.lst ((told y).map fun x => V.str (Str.ofString x))) → ∀ r, H' r = none → Q (.ref r) (L2.upd H' r (.tup [.str (Str.ofString "raised"), .ref p2, .ref l])) := fun p2 np l H' kp hl r nr => by
  have kk : Keeps H H' := ((Keeps.new nd).trans (Keeps.new np)).trans kp
  exact q r _ (kk.put (kk.free nr)) (by rw [upd_same]; exact Option.some_ne_none _) (at_raised ty upd_same (But0.new nr _ _ (kp _ _ upd_same)) (atl_one (hu _)) (Nat.le_of_ble_eq_true rfl) (But0.new nr _ _ hl))
/-- the same in a pair with None -/
theorem suite_n {y : String} {fld : Str} (ty : told y = ["ValueError", "TworoomsError", y]) {H : Hp} {d : Addr} {u : V} {du : Dat} {Q : VK} (hu : ∀ H, At H All du u) (nd : H d = none) (q : ∀ r t H', Keeps H H' → H' r = some (.tup [.ref t, .non]) → At H' All (dRaised (Str.ofString y) [du]) (.ref t) → Q (.ref r) H') : ∀ (p2 : Addr), L2.upd H d (.xd [(fld, u)]) p2 = none → ∀ (l : Addr) (H' : Hp), (∀ b o, L2.upd (L2.upd H d (.xd [(fld, u)])) p2 (.tup [u]) b = some o → H' b = some o) →
    H' l = some (.lst ((told y).map fun x => V.str (Str.ofString x))) → ∀ r, H' r = none → ∀ p, L2.upd H' r (.tup [.str (Str.ofString "raised"), .ref p2, .ref l]) p = none → Q (.ref p) (L2.upd (L2.upd H' r (.tup [.str (Str.ofString "raised"), .ref p2, .ref l])) p (.tup [.ref r, .non])) := fun p2 np l H' kp hl r nr => by
  refine suite_v (Q := fun v H1 => ∀ p, H1 p = none → Q (.ref p) (L2.upd H1 p (.tup [v, .non]))) ty hu nd (fun r H' k _ a p np => ?_) p2 np l H' kp hl r nr
  have g := Keeps.new (x := .tup [.ref r, .non]) np
  exact q p r _ (k.trans g) upd_same (a.keepA g)
theorem ok_toldsign {c_Web c_Board CN fI f f_mBs f_kinds : Addr} {fd fd_mBs fd_kinds : FuncData} (D : Dn K mg "_law_told_sign" s_toldsign ["board", "place"] f fd) (D_kinds : Dn K mg "_law_kinds" s_kinds ["x"] f_kinds fd_kinds)
    (X_NoPlace : Exn K mg "NoPlace" CN fI) (XF_NoPlace : XfC K CN) (no_NoPlace_place : PySem.W.findIn K (.ref CN) "place" = some none) (meP : PySem.W.exmOne K (.ref CN) (.ref CN) = some true) (CL_Board : Cls K c_Board)
    (ME_mBoard_sign : Meth K c_Board "sign" f_mBs) (B_mBoard_sign : Binds K fd_mBs ["self", "place"] []) (G_mBoard_sign : FnOk P w K mg base (L2N.CX P w) 3 f_mBs fd_mBs ["self", "place"] (spBsign c_Web c_Board CN)) (G_kinds_NoPlace : FnE P w K mg base CX0 1 f_kinds fd_kinds ["x"] (spKinds K CN "NoPlace")) : FnOk P w K mg base CX0 9 f fd ["board", "place"] (spToldS c_Web c_Board fun c => .str ⟨#[c]⟩) := by
  refine D.F.ok sc_toldsign (fun vs H Q E h => ?_) (fun cdv A outer s H vs Q E hr h => ?_)
  · obtain ⟨b, z, Ps, T, sg, rfl, _⟩ := h
    rfl
  · obtain ⟨b, z, Ps, T, sg, rfl, hB, h1, h2⟩ := h
    refine ⟨_, (pss_cons (L2N.ps_try_as (i := 3) (Wout := fun _ _ _ _ => False) rfl rfl sc_toldsign.nd rfl rfl ⟨rfl, by decide, Or.inl X_NoPlace.g⟩ takesN0
        (fun W pn xe tk hpo => by exact (pss_one (ps_set (i := 2) sc_toldsign.nd rfl (.inl rfl) (pe_methP (pv 0) CL_Board ME_mBoard_sign G_mBoard_sign (hr.mono (by omega)) B_mBoard_sign (fun σ => L2N.passAt tk σ) (pa_cons (pv 1) pa_nil)))))
        (fun a oe cls d pn hz hf => by exact (pss_one (ps_ret (pe_tup (pa_cons pe_str (pa_cons (pe_tup (pa_cons (pe_xf XF_NoPlace no_NoPlace_place hz.zc hf (pv 3)) pa_nil)) (pa_cons (pe_kinds G_kinds_NoPlace (hr.mono (by omega)) hz hf (by rfl) D_kinds.g D_kinds.F.kp D_kinds.b (pv 3)) pa_nil))))))))
      (pss_one (ps_ret (pe_tup (pa_cons pe_str (pa_cons (pv 2) pa_nil)))))), ?_⟩
    obtain ⟨wb, dd, dx, kvs, Bd⟩ := id hB
    walk_at "st"
    refine ⟨dx, _, Bd.ob, boardF_none _ _ _ (by decide +kernel) (by decide +kernel) (by decide +kernel), b, z, Ps, T, sg, rfl, hB, fun i c hi hc => ?_, fun hz d nd => ⟨true, meP, fun _ ad na => ?_, fun e => Bool.noConfusion e⟩⟩
    · walk_at "rt"
      exact ⟨by decide, fun r nr => h1 i c hi hc r _ (Keeps.new nr) (at_tup upd_same (Nat.le_of_ble_eq_true rfl) (atl_cons rfl (atl_one rfl)))⟩
    · walk_at "rt"
      exact ⟨_, rfl, rfl, rfl, d, _, _, rfl, upd_same, lk_at, by decide, fun p2 np => ⟨rfl, rfl, d, _, rfl, But0.new np _ _ upd_same, fun l H' kp hl => ⟨by decide, suite_v (u := .str z) (du := .str z) told_NoPlace (fun _ => rfl) nd (fun r H' k _ a => h2 hz r H' k a) p2 np l H' kp hl⟩⟩⟩
theorem ok_toldhand {c_Web c_Board CN fI f f_mBh f_kinds : Addr} {fd fd_mBh fd_kinds : FuncData} (D : Dn K mg "_law_told_hand" s_toldhand ["board", "place"] f fd) (D_kinds : Dn K mg "_law_kinds" s_kinds ["x"] f_kinds fd_kinds)
    (X_NoPlace : Exn K mg "NoPlace" CN fI) (XF_NoPlace : XfC K CN) (no_NoPlace_place : PySem.W.findIn K (.ref CN) "place" = some none) (meP : PySem.W.exmOne K (.ref CN) (.ref CN) = some true) (CL_Board : Cls K c_Board)
    (ME_mBoard_handat : Meth K c_Board "hand_at" f_mBh) (B_mBoard_handat : Binds K fd_mBh ["self", "place"] []) (G_mBoard_handat : FnOk P w K mg base (L2N.CX P w) 4 f_mBh fd_mBh ["self", "place"] (spBha c_Web c_Board CN)) (G_kinds_NoPlace : FnE P w K mg base CX0 1 f_kinds fd_kinds ["x"] (spKinds K CN "NoPlace")) : FnOk P w K mg base CX0 9 f fd ["board", "place"] (spToldS c_Web c_Board hndD) := by
  refine D.F.ok sc_toldhand (fun vs H Q E h => ?_) (fun cdv A outer s H vs Q E hr h => ?_)
  · obtain ⟨b, z, Ps, T, sg, rfl, _⟩ := h
    rfl
  · obtain ⟨b, z, Ps, T, sg, rfl, hB, h1, h2⟩ := h
    refine ⟨_, (pss_cons (L2N.ps_try_as (i := 3) (Wout := fun _ _ _ _ => False) rfl rfl sc_toldhand.nd rfl rfl ⟨rfl, by decide, Or.inl X_NoPlace.g⟩ takesN0
        (fun W pn xe tk hpo => by exact (pss_one (ps_set (i := 2) sc_toldhand.nd rfl (.inl rfl) (pe_methP (pv 0) CL_Board ME_mBoard_handat G_mBoard_handat (hr.mono (by omega)) B_mBoard_handat (fun σ => L2N.passAt tk σ) (pa_cons (pv 1) pa_nil)))))
        (fun a oe cls d pn hz hf => by exact (pss_one (ps_ret (pe_tup (pa_cons pe_str (pa_cons (pe_tup (pa_cons (pe_xf XF_NoPlace no_NoPlace_place hz.zc hf (pv 3)) pa_nil)) (pa_cons (pe_kinds G_kinds_NoPlace (hr.mono (by omega)) hz hf (by rfl) D_kinds.g D_kinds.F.kp D_kinds.b (pv 3)) pa_nil))))))))
      (pss_one (ps_ret (pe_tup (pa_cons pe_str (pa_cons (pv 2) pa_nil)))))), ?_⟩
    obtain ⟨wb, dd, dx, kvs, Bd⟩ := id hB
    walk_at "st"
    refine ⟨dx, _, Bd.ob, boardF_none _ _ _ (by decide +kernel) (by decide +kernel) (by decide +kernel), b, z, Ps, T, sg, rfl, hB, fun i c hi hc => ?_, fun hz d nd => ⟨true, meP, fun _ ad na => ?_, fun e => Bool.noConfusion e⟩⟩
    · walk_at "rt"
      exact ⟨by decide, fun r nr => h1 i c hi hc r _ (Keeps.new nr) (at_tup upd_same (Nat.le_of_ble_eq_true rfl) (atl_cons rfl (atl_one (at_hnd c))))⟩
    · walk_at "rt"
      exact ⟨_, rfl, rfl, rfl, d, _, _, rfl, upd_same, lk_at, by decide, fun p2 np => ⟨rfl, rfl, d, _, rfl, But0.new np _ _ upd_same, fun l H' kp hl => ⟨by decide, suite_v (u := .str z) (du := .str z) told_NoPlace (fun _ => rfl) nd (fun r H' k _ a => h2 hz r H' k a) p2 np l H' kp hl⟩⟩⟩
theorem ok_toldboard {c_Web c_Board CS fS f f_iBoard f_kinds : Addr} {fd fd_iBoard fd_kinds : FuncData} (D : Dn K mg "_law_told_board" s_toldboard ["web", "signs"] f fd) (D_kinds : Dn K mg "_law_kinds" s_kinds ["x"] f_kinds fd_kinds)
    (X_BadSigns : Exn K mg "BadSigns" CS fS) (XF_BadSigns : XfC K CS) (no_BadSigns_at : PySem.W.findIn K (.ref CS) "at" = some none) (meS : PySem.W.exmOne K (.ref CS) (.ref CS) = some true)
    (gc_Board : mg "Board" = some (.ref c_Board)) (MK_Board : Mk K c_Board f_iBoard) (G_iBoard : FnOk P w K mg base (L2N.CX P w) 6 f_iBoard fd_iBoard ["self", "web", "signs"] (spInB c_Web c_Board CS)) (B_iBoard : Binds K fd_iBoard ["self", "web", "signs"] []) (G_kinds_BadSigns : FnE P w K mg base CX0 1 f_kinds fd_kinds ["x"] (spKinds K CS "BadSigns")) : FnOk P w K mg base CX0 9 f fd ["web", "signs"] (spToldB c_Web c_Board) := by
  refine D.F.ok sc_toldboard (fun vs H Q E h => ?_) (fun cdv A outer s H vs Q E hr h => ?_)
  · obtain ⟨wb, sg, Ps, T, rfl, _⟩ := h
    rfl
  · obtain ⟨wb, sg, Ps, T, rfl, hw, O, few, h1, h2⟩ := h
    refine ⟨_, (pss_cons (L2N.ps_try_as (i := 3) (Wout := fun _ _ _ _ => False) rfl rfl sc_toldboard.nd rfl rfl ⟨rfl, by decide, Or.inl X_BadSigns.g⟩ takesN0
        (fun W pn xe tk hpo => by exact (pss_one (ps_set (i := 2) sc_toldboard.nd rfl (.inl rfl) (pe_makeS MK_Board G_iBoard (hr.mono (by omega)) (by rfl) gc_Board B_iBoard (fun σ => L2N.passAt tk σ) (pa_cons (pv 0) (pa_cons (pv 1) pa_nil))))))
        (fun a oe cls d pn hz hf => by exact (pss_one (ps_ret (pe_tup (pa_cons (pe_tup (pa_cons pe_str (pa_cons (pe_tup (pa_cons (pe_xf XF_BadSigns no_BadSigns_at hz.zc hf (pv 3)) pa_nil)) (pa_cons (pe_kinds G_kinds_BadSigns (hr.mono (by omega)) hz hf (by rfl) D_kinds.g D_kinds.F.kp D_kinds.b (pv 3)) pa_nil)))) (pa_cons pe_non pa_nil)))))))
      (pss_one (ps_ret (pe_tup (pa_cons pe_non (pa_cons (pv 2) pa_nil)))))), ?_⟩
    walk_at "st"
    intro x dy nx nd ne
    have nd2 : L2.upd H dy (.own x) x = none := by rw [upd_ne (fun z => ne z.symm)]; exact nx
    have kk : Keeps H (L2.upd (L2.upd H dy (.own x)) x (.ins c_Board dy [])) := (Keeps.new nd).trans (Keeps.new nd2)
    refine ⟨x, wb, dy, Ps, T, sg, rfl, upd_same, hw.keep kk, O, few, fun S H' b' IB => ⟨rfl, ?_⟩, fun d n hd H' k' dx ndx => ⟨true, meS, fun _ ad na => ?_, fun e => Bool.noConfusion e⟩⟩
    · have k : Keeps H H' := fun b o e => b' _ _ (fun z => by rw [z, nx] at e; cases e) (kk _ _ e)
      walk_at "rt"
      exact ⟨by decide, fun p np => h1 S p x _ (k.trans (Keeps.new np)) upd_same (BdW.keep IB (Keeps.new np))⟩
    · walk_at "rt"
      exact ⟨_, rfl, rfl, rfl, dx, _, _, rfl, upd_same, lk_at, by decide, fun p2 np => ⟨rfl, rfl, dx, _, rfl, But0.new np _ _ upd_same, fun l H'' kp hl => ⟨by decide, fun r nr => ⟨by decide, suite_n (u := .int d) (du := .int d) told_BadSigns (fun _ => rfl) ndx (fun r t H3 k3 hr ha => h2 n d hd r t H3 ((kk.trans k').trans k3) hr ha) p2 np l H'' kp hl r nr⟩⟩⟩⟩
theorem ok_toldput {c_Web c_Board CN CS fN fS f f_mBp f_kinds : Addr} {fd fd_mBp fd_kinds : FuncData} (D : Dn K mg "_law_told_put" s_toldput ["board", "place", "sign"] f fd) (D_kinds : Dn K mg "_law_kinds" s_kinds ["x"] f_kinds fd_kinds)
    (X_NoPlace : Exn K mg "NoPlace" CN fN) (XF_NoPlace : XfC K CN) (no_NoPlace_place : PySem.W.findIn K (.ref CN) "place" = some none) (meP : PySem.W.exmOne K (.ref CN) (.ref CN) = some true)
    (X_BadSigns : Exn K mg "BadSigns" CS fS) (XF_BadSigns : XfC K CS) (no_BadSigns_at : PySem.W.findIn K (.ref CS) "at" = some none) (meS : PySem.W.exmOne K (.ref CS) (.ref CS) = some true) (meSP : PySem.W.exmOne K (.ref CS) (.ref CN) = some false) (CL_Board : Cls K c_Board)
    (ME_mBoard_put : Meth K c_Board "put" f_mBp) (B_mBoard_put : Binds K fd_mBp ["self", "place", "sign"] []) (G_mBoard_put : FnOk P w K mg base (L2N.CX P w) 8 f_mBp fd_mBp ["self", "place", "sign"] (spPut c_Web c_Board CN CS))
    (G_kinds_NoPlace : FnE P w K mg base CX0 1 f_kinds fd_kinds ["x"] (spKinds K CN "NoPlace")) (G_kinds_BadSigns : FnE P w K mg base CX0 1 f_kinds fd_kinds ["x"] (spKinds K CS "BadSigns")) : FnOk P w K mg base CX0 9 f fd ["board", "place", "sign"] (spToldP c_Web c_Board) := by
  refine D.F.ok sc_toldput (fun vs H Q E h => ?_) (fun cdv A outer s H vs Q E hr h => ?_)
  · obtain ⟨b, z, x, Ps, T, sg, rfl, _⟩ := h
    rfl
  · obtain ⟨b, z, x, Ps, T, sg, rfl, hB, h1, h2, h3⟩ := h
    refine ⟨_, (pss_cons (L2N.ps_try_manyA (Wout := fun _ _ _ _ => False) rfl rfl sc_toldput.nd takesN0
        (fun W pn xe tk hpo => by exact (pss_one (ps_set (i := 3) sc_toldput.nd rfl (.inl rfl) (pe_methP (pv 0) CL_Board ME_mBoard_put G_mBoard_put (hr.mono (by omega)) B_mBoard_put (fun σ => L2N.passAt tk σ) (pa_cons (pv 1) (pa_cons (pv 2) pa_nil))))))
        (L2N.HdsA.named (i := 4) rfl rfl ⟨rfl, by decide, Or.inl X_NoPlace.g⟩ (fun a oe cls d pn hz hf => by exact (pss_one (ps_ret (pe_tup (pa_cons (pe_tup (pa_cons pe_str (pa_cons (pe_tup (pa_cons (pe_xf XF_NoPlace no_NoPlace_place hz.zc hf (pv 4)) pa_nil)) (pa_cons (pe_kinds G_kinds_NoPlace (hr.mono (by omega)) hz hf (by rfl) D_kinds.g D_kinds.F.kp D_kinds.b (pv 4)) pa_nil)))) (pa_cons pe_non pa_nil))))))
        (L2N.HdsA.named (i := 4) rfl rfl ⟨rfl, by decide, Or.inl X_BadSigns.g⟩ (fun a oe cls d pn hz hf => by exact (pss_one (ps_ret (pe_tup (pa_cons (pe_tup (pa_cons pe_str (pa_cons (pe_tup (pa_cons (pe_xf XF_BadSigns no_BadSigns_at hz.zc hf (pv 4)) pa_nil)) (pa_cons (pe_kinds G_kinds_BadSigns (hr.mono (by omega)) hz hf (by rfl) D_kinds.g D_kinds.F.kp D_kinds.b (pv 4)) pa_nil)))) (pa_cons pe_non pa_nil))))))
        L2N.HdsA.nil)))
      (pss_one (ps_ret (pe_tup (pa_cons pe_non (pa_cons (pv 3) pa_nil)))))), ?_⟩
    obtain ⟨wb, dd, dx, kvs, Bd⟩ := id hB
    walk_at "st"
    refine ⟨dx, _, Bd.ob, boardF_none _ _ _ (by decide +kernel) (by decide +kernel) (by decide +kernel), b, z, x, Ps, T, sg, rfl, hB, fun hz d nd => ⟨true, meP, fun _ ad na => ?_, fun e => Bool.noConfusion e⟩, fun hz hs d nd => ⟨false, meSP, fun e => Bool.noConfusion e, fun _ => ⟨true, meS, fun _ ad na => ?_, fun e => Bool.noConfusion e⟩⟩, fun i c hi hx hc m H' k hm => ?_⟩
    · walk_at "rt"
      exact ⟨_, rfl, rfl, rfl, d, _, _, rfl, upd_same, lk_at, by decide, fun p2 np => ⟨rfl, rfl, d, _, rfl, But0.new np _ _ upd_same, fun l H'' kp hl => ⟨by decide, fun r nr => ⟨by decide, suite_n (u := .str z) (du := .str z) told_NoPlace (fun _ => rfl) nd (fun r t H3 k3 hr ha => h1 hz r t H3 k3 hr ha) p2 np l H'' kp hl r nr⟩⟩⟩⟩
    · walk_at "rt"
      exact ⟨_, rfl, rfl, rfl, d, _, _, rfl, upd_same, lk_at, by decide, fun p2 np => ⟨rfl, rfl, d, _, rfl, But0.new np _ _ upd_same, fun l H'' kp hl => ⟨by decide, fun r nr => ⟨by decide, suite_n (u := .int 0) (du := .int 0) told_BadSigns (fun _ => rfl) nd (fun r t H3 k3 hr ha => h2 hz hs r t H3 k3 hr ha) p2 np l H'' kp hl r nr⟩⟩⟩⟩
    · walk_at "rt"
      exact ⟨by decide, fun r nr => h3 i c hi hx hc r m _ (k.trans (Keeps.new nr)) upd_same (hm.keep (Keeps.new nr))⟩
end
end K01
namespace K01
open PySem PySem.Spec PyProof.Rows L2 TL HotExc L2H HotLc Tw WX
local macro_rules | `(tactic| walk_at "rd") => `(tactic| simp only [start1, tMakeS, rIndex, tMethP, tG1, rSetOfS, tDisp, tPairs, rSInK, tAug, ipI, wipe, isR, isBool, isInt, isStr, isLst, isTup, tAsg, gName, gSub, tVar, tC, tOp, tUn, tTest, tIfS, tRet, tRetN, tDrop, tB, tAnd, tOr, tNot, tAndV, tOrV, tNotV, tIf, tCB, tCons, tNil, tNext, tCall, tBM, tTup, tLst, rU, rInW, rNinW, Int.reduceNeg, tG, tG2, sP, tFldC, sFldC, tProp, tMeth, tMake, rOwnC, rLenO, rIsC, rNoT, tAddT, tSAddK, rSAddK, rSInK, rSet0K, rSet0T, rMinS, rMaxS, rSortedQ, rSortedT, rEqD, rNeD, rIxD, dcL_eq, dcZ_eq, lcO_eq, forE_eq, forT_eq, lcS_eq, ItX.rIterN, iOwn, List.append_nil, tDisp, tPairs, tCallS, tCallSD, tCallT, StX.tStar, tCallK, tCallKS, rTupOf, tDrop, rI0, rI, rEq, rNe, scal, forR_eq, forR2_eq, forS_eq, forL_eq, lcT_eq, lcRT_eq, lcS_eq, rLenX, rLenS, rListOf, tRevL, rMulS, rRepL, rCatL, rSumN, rMaxN, tBM0, rPop, tAug, ipI,  tPart, tNoPart, CwR.tReplC, rAllK, rInSg, rNinSg, sgn_inj, rAddS, rInSt, tChain, tM1, tM0, rSplitN, rJoinN, exists_eq, rIntI, rIntB, rIntS, rStrI, rAbs, rOrd, rMin, rMax, rIxL, rIxX, rSetL, rAppend, rIxS, rSlS, rSlL, tSl, List.map_cons, List.map_nil, List.replicate_succ, List.replicate_zero, List.length_cons, List.length_nil, Nat.reduceSub, Nat.reduceAdd, Nat.zero_add, Nat.sub_self, List.getElem?_cons_zero, List.getElem?_cons_succ, List.set_cons_zero, List.set_cons_succ, List.append_nil, List.nil_append, List.cons_append, Option.some.injEq, not_true_eq_false, reduceCtorEq, exists_eq_left', exists_eq_left, exists_eq', exists_and_left, exists_and_right, V.int.injEq, V.str.injEq, V.bl.injEq, V.ref.injEq, List.cons.injEq, and_true, true_and, and_assoc, decide_eq_true_eq, Bool.not_eq_true', decide_eq_false_iff_not, ite_true, ite_false, if_true, if_false, Bool.not_true, Bool.not_false, Bool.false_eq_true, eq_self_iff_true, reduceIte, ne_eq, Int.reduceEq, not_false_eq_true])
local macro_rules | `(tactic| walk_at "rt") => `(tactic| try walk_at "rd")
local macro_rules | `(tactic| walk_at "st") => `(tactic| (walk_at "rt"; refine r_seq ?_; walk_at "rt"))
local macro_rules | `(tactic| walk_at "hp") => `(tactic| first | assumption | exact upd_same | (rw [upd_ne (by assumption)]; walk_at "hp"))
local macro_rules | `(tactic| walk_at "ex1") => `(tactic| ((with_reducible refine Exists.intro ?w (And.intro ?hx ?_)); (case hx => first | exact sq_of (by walk_at "hp") | exact .inl (sq_of (by walk_at "hp")) | exact rfl | (show _ = some (HO.lst _); walk_at "hp"))))
local macro_rules | `(tactic| walk_at "ex") => `(tactic| repeat (first | walk_at "ex1" | walk_at "rd"))
abbrev s_shows : Stmt := topS 80
theorem sc_shows : FnScope ["board", "web", "signs", "hands", "k", "told", "sign", "due"] ["board", "web", "signs"] (defScope s_shows) := ⟨rfl, rfl, rfl, by decide +kernel, rfl, by decide +kernel, by decide +kernel⟩
def prD (p : Str × Str) : Dat := .tup [.str p.1, .str p.2]
theorem at_prs {H : Hp} : ∀ {vs : List V} {T : List (Str × Str)}, PT H T vs → AtL H All (T.map prD) vs
  | [], T, h => by
    have : T = [] := List.length_eq_zero_iff.mp h.1.symm
    rw [this]
    rfl
  | v :: vs, T, h => by
    obtain ⟨p, qs, rfl, ⟨t, rfl, ht⟩, h2⟩ := h.cons
    exact atl_cons (at_tup ht (Nat.le_of_ble_eq_true rfl) (atl_cons rfl (atl_cons rfl rfl))) (at_prs h2)
theorem dep_prs : ∀ T : List (Str × Str), depL (T.map prD) ≤ 1
  | [] => by rw [List.map_nil, depL]; exact Nat.zero_le _
  | p :: T => by
    rw [List.map_cons, depL]
    have := dep_prs T
    have h2 : (prD p).dep ≤ 1 := by simp [prD, Dat.dep, depL]
    omega
theorem dep_strs : ∀ ws : List Str, depL (ws.map Dat.str) = 0
  | [] => rfl
  | _ :: ws => by rw [List.map_cons, depL, dep_strs ws]; rfl
theorem dep_hnd (c : Nat) : (hndD c).dep = 0 := by
  unfold hndD
  cases hndS c <;> rfl
theorem bear_len (Ps : List Str) (cs : List Nat) (z : Str) : (bear Ps cs z).length ≤ Ps.length := by
  unfold bear
  rw [List.length_map]
  refine Nat.le_trans (List.length_filter_le _ _) ?_
  rw [List.length_zip]
  exact Nat.min_le_left _ _
def handsT : List (Key × V) := [(Sum.inr (Str.ofString "d"), .str (Str.ofString "dark")), (Sum.inr (Str.ofString "l"), .str (Str.ofString "light")), (Sum.inr (Str.ofString "."), .non)]
theorem hands_val {c : Nat} (h : sgn c) : valV (mergeK [] handsT) (Sum.inr (⟨#[c]⟩ : Str)) = some (hndV c) := by
  rcases h with rfl | rfl | rfl <;> rfl
def spShw (CW CB : Addr) : Sp := fun vs H Q _ => ∃ (b r : Addr) (Ps : List Str) (T : List (Str × Str)) (sg : Str), vs = [.ref b, .ref r, .str sg] ∧ IsBoard CW CB H b Ps T sg ∧ LW H r Ps T ∧ Wok Ps T ∧ ∀ H', Keeps H H' → Q (.bl true) H'
section
variable {P : Program} {w : World} {K : PySem.W.Frag} {mg : Str → Option Value} {base : Heap}
theorem ok_shows {c_Web c_Board f f_like f_ts f_th f_Bsg f_Bweb f_Bbe f_Wpl f_Wti g_Bsg g_Bweb g_Wpl g_Wti : Addr} {fd fd_like fd_ts fd_th fd_Bsg fd_Bweb fd_Bbe fd_Wpl fd_Wti : FuncData} (B : Bi mg) (D : Dn K mg "_law_shows" s_shows ["board", "web", "signs"] f fd) (D_like : Dn K mg "_law_like" s_like ["one", "two"] f_like fd_like) (G_like : FnOk P w K mg base CX0 6 f_like fd_like ["one", "two"] (spLike 5))
    (D_toldsign : Dn K mg "_law_told_sign" s_toldsign ["board", "place"] f_ts fd_ts) (G_toldsign : FnOk P w K mg base CX0 9 f_ts fd_ts ["board", "place"] (spToldS c_Web c_Board fun c => .str ⟨#[c]⟩)) (D_toldhand : Dn K mg "_law_told_hand" s_toldhand ["board", "place"] f_th fd_th) (G_toldhand : FnOk P w K mg base CX0 9 f_th fd_th ["board", "place"] (spToldS c_Web c_Board hndD))
    (CL_Web : Cls K c_Web) (CL_Board : Cls K c_Board) (PR_mBoard_signs : PropOf K c_Board "signs" g_Bsg f_Bsg) (G_mBoard_signs : FnOk P w K mg base CX0 1 f_Bsg fd_Bsg ["self"] (spBsg c_Web c_Board)) (B_mBoard_signs : Binds K fd_Bsg ["self"] [])
    (PR_mBoard_web : PropOf K c_Board "web" g_Bweb f_Bweb) (G_mBoard_web : FnOk P w K mg base CX0 1 f_Bweb fd_Bweb ["self"] (spBweb c_Web c_Board)) (B_mBoard_web : Binds K fd_Bweb ["self"] [])
    (PR_mWeb_places : PropOf K c_Web "places" g_Wpl f_Wpl) (G_mWeb_places : FnOk P w K mg base CX0 1 f_Wpl fd_Wpl ["self"] (spWpl c_Web)) (B_mWeb_places : Binds K fd_Wpl ["self"] [])
    (PR_mWeb_ties : PropOf K c_Web "ties" g_Wti f_Wti) (G_mWeb_ties : FnOk P w K mg base CX0 1 f_Wti fd_Wti ["self"] (spWti c_Web)) (B_mWeb_ties : Binds K fd_Wti ["self"] [])
    (ME_mBoard_bearing : Meth K c_Board "bearing" f_Bbe) (G_mBoard_bearing : FnOk P w K mg base CX0 2 f_Bbe fd_Bbe ["self", "sign"] (spBbe c_Web c_Board)) (B_mBoard_bearing : Binds K fd_Bbe ["self", "sign"] []) : FnOk P w K mg base CX0 10 f fd ["board", "web", "signs"] (spShw c_Web c_Board) := by
  refine D.F.ok sc_shows (fun vs H Q E h => ?_) (fun cdv A outer s H vs Q E hr h => ?_)
  · obtain ⟨b, r, Ps, T, sg, rfl, _⟩ := h
    rfl
  · obtain ⟨b, r, Ps, T, sg, rfl, hb, hw, wok, q⟩ := h
    refine ⟨_, (pss_cons (ps_set (i := 3) sc_shows.nd rfl (.inl rfl) (pe_disp (pps_cons pe_str pe_str (pps_cons pe_str pe_str (pps_cons pe_str pe_non pps_nil))) (by rfl) (by rfl) (fun z => by cases z) (by decide)))
      (pss_cons (ps_for PassesOwn.never rfl (pi_range1 (by rfl) B.range (pa_cons (pe_callB call_lenS (by rfl) B.len PySem.boot_len (pa_cons (pv 2) pa_nil)) pa_nil)) (pg_name (i := 4) sc_shows.nd rfl (.inl rfl)) (pss_cons (ps_set (i := 5) sc_shows.nd rfl (.inl rfl) (pe_lst (pa_cons (pe_call G_toldsign (hr.mono (by omega)) (by rfl) D_toldsign.g D_toldsign.F.kp D_toldsign.b .nil pass0 (pa_cons (pv 0) (pa_cons (pe_ix (ix_listK (K := K)) (pe_ix (ix_sxK (K := K)) (pv 1) pe_int (fun _ _ => rfl)) (pv 4) (fun _ _ => rfl)) pa_nil))) (pa_cons (pe_call G_toldhand (hr.mono (by omega)) (by rfl) D_toldhand.g D_toldhand.F.kp D_toldhand.b .nil pass0 (pa_cons (pv 0) (pa_cons (pe_ix (ix_listK (K := K)) (pe_ix (ix_sxK (K := K)) (pv 1) pe_int (fun _ _ => rfl)) (pv 4) (fun _ _ => rfl)) pa_nil))) pa_nil))))
      (pss_one (ps_if (pt_not (pt_val (pe_call G_like (hr.mono (by omega)) (by rfl) D_like.g D_like.F.kp D_like.b .nil pass0 (pa_cons (pv 5) (pa_cons (pe_lst (pa_cons (pe_tup (pa_cons pe_str (pa_cons (pe_ix ix_str (pv 2) (pv 4) (fun _ _ => rfl)) pa_nil))) (pa_cons (pe_tup (pa_cons pe_str (pa_cons (pe_gS (hu_of hr) (pv 3) (pe_ix ix_str (pv 2) (pv 4) (fun _ _ => rfl)) (fun _ _ => rfl)) pa_nil))) pa_nil))) pa_nil))))) (pss_one (ps_ret pe_bl)) pss_nil))))
      (pss_cons (ps_for PassesOwn.never rfl (pi_listK (K := K) (pe_lst (pa_cons pe_str (pa_cons pe_str (pa_cons pe_str pa_nil))))) (pg_name (i := 6) sc_shows.nd rfl (.inr rfl)) (pss_cons (ps_setLc (i := 7) (own := [("k", 4)]) (g := gName 4) (by rfl) sc_shows.nd rfl rfl (sw_true rfl rfl rfl (by decide +kernel)) (pi_range1 (by rfl) B.range (pa_cons (pe_callB call_lenS (by rfl) B.len PySem.boot_len (pa_cons (pv 2) pa_nil)) pa_nil)) (blkOk_by (own := [("k", 4)]) (N := ["board", "web", "signs", "hands", "k", "told", "sign", "due"]) (sc := defScope s_shows) (by decide +kernel)) (fun _ _ _ _ _ => pg_name (i := 4) sc_shows.nd rfl (Or.inl rfl)) (fun _ _ _ _ _ => (pts_one (pt_cmpR op_eq (pe_ix ix_str (pv 2) (pv 4) (fun _ _ => rfl)) (pv 6) (nomark _)))) (fun _ _ _ _ _ => (pe_ix (ix_listK (K := K)) (pe_ix (ix_sxK (K := K)) (pv 1) pe_int (fun _ _ => rfl)) (pv 4) (fun _ _ => rfl))))
      (pss_cons (ps_set (i := 5) sc_shows.nd rfl (.inl rfl) (pe_meth (pv 0) CL_Board ME_mBoard_bearing G_mBoard_bearing (hr.mono (by omega)) B_mBoard_bearing .nil pass0 (pa_cons (pv 6) pa_nil)))
      (pss_cons (ps_if (pt_not (pt_val (pe_call G_like (hr.mono (by omega)) (by rfl) D_like.g D_like.F.kp D_like.b .nil pass0 (pa_cons (pv 5) (pa_cons (pv 7) pa_nil))))) (pss_one (ps_ret pe_bl)) pss_nil)
      (pss_cons (ps_expr (pe_bm PySem.F.plainAttrs_list PySem.F.slot_list_append PySem.F.type_list_append mt_append (pv 5) (pa_cons pe_str pa_nil)))
      (pss_one (ps_if (pt_not (pt_val (pe_call G_like (hr.mono (by omega)) (by rfl) D_like.g D_like.F.kp D_like.b .nil pass0 (pa_cons (pe_meth (pv 0) CL_Board ME_mBoard_bearing G_mBoard_bearing (hr.mono (by omega)) B_mBoard_bearing .nil pass0 (pa_cons (pv 6) pa_nil)) (pa_cons (pv 7) pa_nil))))) (pss_one (ps_ret pe_bl)) pss_nil)))))))
      (pss_one (ps_ret (pe_call G_like (hr.mono (by omega)) (by rfl) D_like.g D_like.F.kp D_like.b .nil pass0 (pa_cons (pe_lst (pa_cons (pe_prop (pv 0) CL_Board PR_mBoard_signs G_mBoard_signs (hr.mono (by omega)) B_mBoard_signs .nil pass0 (by rfl)) (pa_cons (pe_prop (pe_prop (pv 0) CL_Board PR_mBoard_web G_mBoard_web (hr.mono (by omega)) B_mBoard_web .nil pass0 (by rfl)) CL_Web PR_mWeb_places G_mWeb_places (hr.mono (by omega)) B_mWeb_places .nil pass0 (by rfl)) (pa_cons (pe_prop (pe_prop (pv 0) CL_Board PR_mBoard_web G_mBoard_web (hr.mono (by omega)) B_mBoard_web .nil pass0 (by rfl)) CL_Web PR_mWeb_ties G_mWeb_ties (hr.mono (by omega)) B_mWeb_ties .nil pass0 (by rfl)) pa_nil)))) (pa_cons (pe_lst (pa_cons (pv 2) (pa_cons (pe_ix (ix_sxK (K := K)) (pv 1) pe_int (fun _ _ => rfl)) (pa_cons (pe_ix (ix_sxK (K := K)) (pv 1) pe_int (fun _ _ => rfl)) pa_nil)))) pa_nil)))))))), ?_⟩
    have F := wok.fit
    have h20 := F.p20
    have h60 := F.e60
    have kb : ∀ H', Keeps H H' → IsBoard c_Web c_Board H' b Ps T sg := fun H' k => hb.keep k
    have ob : ∀ H', Keeps H H' → ∃ x x_1, H' b = some (HO.ins c_Board x x_1) := fun H' k => let ⟨w, d, dx, kvs, h⟩ := kb H' k; ⟨_, _, h.ob⟩
    have sgok : SgOk Ps.length sg := let ⟨w, d, dx, kvs, h⟩ := hb; h.sg
    have lsg : (tl sg).length = Ps.length := sgok.len
    have el : sg.length = (tl sg).length := (len_tl sg).symm
    obtain ⟨pa, ta, ⟨nv, hr0, _⟩, hpa, tvs, hta, htt⟩ := id hw
    have web : ∀ H', Keeps H H' → SqL K H' r [.ref pa, .ref ta, .ref nv] ∨ SqT K H' r [.ref pa, .ref ta, .ref nv] := fun H' k => .inr (tup_at (k _ _ hr0))
    obtain ⟨dxb, fsb, hob, hno⟩ : ∃ dx fs, H b = some (.ins c_Board dx fs) ∧ fs.lookup (Str.ofString "bearing") = none := let ⟨w, d, dx, kvs, h⟩ := hb; ⟨_, _, h.ob, boardF_no _ _ _⟩
    have sz1 : 1 ≤ sizeLine := Nat.le_of_ble_eq_true rfl
    have sz2 : 2 ≤ sizeLine := Nat.le_of_ble_eq_true rfl
    have sz3 : 3 ≤ sizeLine := Nat.le_of_ble_eq_true rfl
    walk_at "st"
    refine fun hd nhd => ⟨upd_same, handsT, rfl, by decide, ?_⟩
    have k1 : Keeps H (L2.upd (L2.upd H hd (.dK [])) hd (.dK (mergeK [] handsT))) := (Keeps.new (x := .dK []) nhd).put nhd
    have hhd : L2.upd (L2.upd H hd (.dK [])) hd (.dK (mergeK [] handsT)) hd = some (.dK (mergeK [] handsT)) := upd_same
    generalize L2.upd (L2.upd H hd (.dK [])) hd (.dK (mergeK [] handsT)) = H1 at *
    walk_at "st"
    refine ⟨line_of (by omega), by omega, by omega, ?_⟩
    refine r_range (fun i σ H' => (∃ x4 x5 x6 x7, σ = [some (.ref b), some (.ref r), some (.str sg), some (.ref hd), x4, x5, x6, x7]) ∧ Keeps H1 H') ⟨⟨_, _, _, _, rfl⟩, Keeps.refl _⟩ ?_ ?_
    · rintro i σ H2 hi ⟨⟨x4, x5, x6, x7, rfl⟩, k2⟩ N kN
      have hi : i < Ps.length := by omega
      obtain ⟨z, hz⟩ : ∃ z, Ps[i]? = some z := ⟨_, List.getElem?_eq_getElem hi⟩
      obtain ⟨c, hc⟩ : ∃ c, (tl sg)[i]? = some c := ⟨_, List.getElem?_eq_getElem (by omega)⟩
      have hs := sgok.al c (List.mem_of_getElem? hc)
      have a1 : atI sg.cps.toList (0 + (i : Int)) = some c := by rw [Int.zero_add]; exact atI_nat hc
      have a2 : atI (Ps.map V.str) (0 + (i : Int)) = some (.str z) := by
        rw [Int.zero_add]
        exact atI_nat (by rw [List.getElem?_map, hz]; rfl)
      have zP := List.mem_of_getElem? hz
      have k02 := k1.trans k2
      have only : ∀ (j : Nat) c', Ps[j]? = some z → (tl sg)[j]? = some c' → c' = c := fun j c' h1 h2 => by
        have : i = j := (List.getElem?_inj hi F.pnd).mp (hz.trans h1.symm)
        subst this
        rw [hc] at h2
        exact (Option.some.inj h2).symm
      walk_at "st"
      refine ⟨_, web _ k02, _, rfl, pa, rfl, _, sq_of (k02 _ _ hpa), _, a2, b, z, Ps, T, sg, rfl, kb _ k02, fun j c' g1 g2 r1 H3 k3 t1 => ?_, fun g => absurd zP g⟩
      obtain rfl := only j c' g1 g2
      have k03 := k02.trans k3
      refine ⟨_, web _ k03, _, rfl, pa, rfl, _, sq_of (k03 _ _ hpa), _, a2, b, z, Ps, T, sg, rfl, kb _ k03, fun j' c2 g3 g4 r2 H4 k4 t2 => ?_, fun g => absurd zP g⟩
      obtain rfl := only j' c2 g3 g4
      refine ⟨sz2, fun p1 n1 => ⟨line_of (by omega), c2, a1, sz2, fun p2 n2 => ⟨line_of (by omega), c2, a1, ?_⟩⟩⟩
      have g1' := Keeps.new (x := .lst [.ref r1, .ref r2]) n1
      have g2' := Keeps.new (x := .tup [.str (Str.ofString "gave"), .str ⟨#[c2]⟩]) n2
      have k24 := (k3.trans k4).trans (g1'.trans g2')
      refine ⟨_, (k2.trans k24) _ _ hhd, _, hands_val hs, sz2, fun p3 n3 => ⟨sz2, fun p4 n4 => ?_⟩⟩
      have g3' := Keeps.new (x := .tup [.str (Str.ofString "gave"), hndV c2]) n3
      have g4' := Keeps.new (x := .lst [.ref p2, .ref p3]) n4
      have kk := ((g1'.trans g2').trans g3').trans g4'
      have A1 : At (L2.upd (L2.upd (L2.upd (L2.upd H4 p1 (HO.lst [V.ref r1, V.ref r2])) p2 (HO.tup [V.str (Str.ofString "gave"), V.str { cps := #[c2] }])) p3 (HO.tup [V.str (Str.ofString "gave"), hndV c2])) p4 (HO.lst [V.ref p2, V.ref p3])) All (.lst [dGave (.str ⟨#[c2]⟩), dGave (hndD c2)]) (.ref p1) :=
        at_lst (((g2'.trans g3').trans g4') _ _ upd_same) (Nat.le_of_ble_eq_true rfl) (atl_cons (At.keepA t1 (k4.trans kk)) (atl_one (At.keepA t2 kk)))
      refine ⟨_, _, All, All, _, rfl, A1, at_lst upd_same (Nat.le_of_ble_eq_true rfl) (atl_cons (at_tup ((g3'.trans g4') _ _ upd_same) (Nat.le_of_ble_eq_true rfl) (atl_cons rfl (atl_one rfl))) (atl_one (at_tup (g4' _ _ upd_same) (Nat.le_of_ble_eq_true rfl) (atl_cons rfl (atl_one (at_hnd c2)))))), ?_, fun H8 k8 => ⟨true, rfl, ?_⟩⟩
      · have := dep_hnd c2
        simp only [dGave, Dat.dep, depL, this]
        decide
      rw [if_neg (by decide)]
      exact kN _ _ ⟨⟨_, _, _, _, rfl⟩, (((k2.trans k3).trans k4).trans kk).trans k8⟩
    rintro σ H2 ⟨⟨x4, x5, x6, x7, rfl⟩, k2⟩
    walk_at "st"
    refine ⟨sz3, fun l3 nl3 => ⟨⟨_, sq_of upd_same⟩, ?_⟩⟩
    have g3 := Keeps.new (x := .lst [V.str (Str.ofString "d"), V.str (Str.ofString "l"), V.str (Str.ofString ".")]) nl3
    have hl3 : L2.upd H2 l3 (.lst [V.str (Str.ofString "d"), V.str (Str.ofString "l"), V.str (Str.ofString ".")]) l3 = some (.lst ([Str.ofString "d", Str.ofString "l", Str.ofString "."].map V.str)) := upd_same
    have k13 := k2.trans g3
    generalize L2.upd H2 l3 (.lst [V.str (Str.ofString "d"), V.str (Str.ofString "l"), V.str (Str.ofString ".")]) = H3 at *
    have k03 := k1.trans k13
    have row : ∀ (z : Str) (Hc : Hp) (Dd : Addr) (x4 x5 x7 : Option V) (Qd : Hp → Prop), Keeps H Hc → Hc Dd = none → (∀ H', Keeps Hc H' → H' Dd = some (.lst ((bear Ps (tl sg) z).map V.str)) → Qd H') →
        LcT (Itr 0 ((sg.length : Int)).toNat) (gName 4) (tTest (tOp rEq (tOp rIxS (tVar 2) (tVar 4)) (tVar 6))) (tOp (rIxL K) (tOp (rIxX K) (tVar 1) (tC (V.int 0))) (tVar 4)) [4] [some (V.ref b), some (V.ref r), some (V.str sg), some (V.ref hd), x4, x5, some (V.str z), x7] Hc Dd Qd := fun z Hc Dd x4 x5 x7 Qd kc nD qd => by
      refine r_lcRT (n := ((sg.length : Int)).toNat) (fun i H' => Keeps Hc H' ∧ H' Dd = some (.lst ((bear (Ps.take i) ((tl sg).take i) z).map V.str))) (fun _ => rfl) ⟨Keeps.new nD, upd_same⟩ ?_ ?_
      · rintro i H' hi ⟨k, hD⟩ N M kN kM
        have hi : i < Ps.length := by omega
        have h1 := List.getElem?_eq_getElem hi
        have h2 := List.getElem?_eq_getElem (l := tl sg) (i := i) (by omega)
        generalize Ps[i] = x at h1
        generalize (tl sg)[i] = c at h2
        have bl := bear_len (Ps.take i) ((tl sg).take i) z
        rw [List.length_take] at bl
        have bs := bear_snoc (z := z) h1 h2
        have a1 : atI sg.cps.toList (0 + (i : Int)) = some c := by rw [Int.zero_add]; exact atI_nat h2
        have a2 : atI (Ps.map V.str) (0 + (i : Int)) = some (.str x) := by
          rw [Int.zero_add]
          exact atI_nat (by rw [List.getElem?_map, h1]; rfl)
        walk_at "rt"
        refine ⟨line_of (by omega), c, a1, ite2 (fun h => ⟨_, web _ (kc.trans k), _, rfl, pa, rfl, _, sq_of ((kc.trans k) _ _ hpa), _, a2, kN _ H' _ hD (size_ok (by rw [List.length_map]; omega)) ⟨k.put nD, ?_⟩⟩) (fun h => kM H' ⟨k, ?_⟩)⟩
        · rw [upd_same, bs, if_pos h, List.map_append]
          rfl
        · rw [bs, if_neg h, List.append_nil]
          exact hD
      · rintro H' ⟨k, hD⟩
        rw [List.take_of_length_le (by omega), List.take_of_length_le (by omega)] at hD
        exact qd H' k hD
    refine r_list ([Str.ofString "d", Str.ofString "l", Str.ofString "."].map V.str) (fun i σ H' => (∃ x4 x5 x6 x7, σ = [some (.ref b), some (.ref r), some (.str sg), some (.ref hd), x4, x5, x6, x7]) ∧ Keeps H3 H') ⟨⟨_, _, _, _, rfl⟩, Keeps.refl _⟩ (fun i σ H' _ h => sq_of (h.2 _ _ hl3)) ?_ ?_
    · rintro i v σ H4 hv ⟨⟨x4, x5, x6, x7, rfl⟩, k4⟩ N kN
      obtain ⟨z, hz, rfl⟩ := get_map hv
      walk_at "st"
      refine ⟨line_of (by omega), by omega, by omega, fun Dd nD => row z H4 Dd _ _ _ _ (k03.trans k4) nD fun H5 k5 hD => ?_⟩
      have bl := bear_len Ps (tl sg) z
      have k05 := (k03.trans k4).trans k5
      have aD : At H5 All (dStrs (bear Ps (tl sg) z)) (.ref Dd) := at_strs hD (by omega)
      have dp : (dStrs (bear Ps (tl sg) z)).dep ≤ 4 := by simp only [dStrs, Dat.dep, dep_strs]; omega
      walk_at "st"
      refine ⟨_, _, k05 _ _ hob, hno, b, z, Ps, T, sg, rfl, kb _ k05, fun l4 H6 k6 nl4 hl4 => ?_⟩
      walk_at "st"
      refine ⟨_, _, All, All, _, rfl, at_strs hl4 (by omega), At.keepA aD k6, dp, fun H7 k7 => ⟨true, rfl, ?_⟩⟩
      rw [if_neg (by decide)]
      have hl4' := k7 _ _ hl4
      walk_at "st"
      refine ⟨.inl ⟨rfl, _, sq_of hl4'⟩, _, hl4', size_ok (by rw [List.length_map]; omega), ?_⟩
      have k57 : Keeps H5 (L2.upd H7 l4 (.lst ((bear Ps (tl sg) z).map V.str ++ [V.str (Str.ofString "a")]))) := (k6.trans k7).put nl4
      generalize L2.upd H7 l4 (.lst ((bear Ps (tl sg) z).map V.str ++ [V.str (Str.ofString "a")])) = H8 at *
      have k08 := k05.trans k57
      walk_at "rt"
      refine ⟨_, _, k08 _ _ hob, hno, b, z, Ps, T, sg, rfl, kb _ k08, fun l5 H9 k9 nl5 hl5 => ?_⟩
      refine ⟨_, _, All, All, _, rfl, at_strs hl5 (by omega), At.keepA aD (k57.trans k9), dp, fun H10 k10 => ⟨true, rfl, ?_⟩⟩
      rw [if_neg (by decide)]
      exact kN _ _ ⟨⟨_, _, _, _, rfl⟩, (((k4.trans k5).trans k57).trans k9).trans k10⟩
    rintro σ H4 ⟨⟨x4, x5, x6, x7, rfl⟩, k4⟩
    have k04 := k03.trans k4
    walk_at "rt"
    refine ⟨ob _ k04, b, Ps, T, sg, rfl, kb _ k04, ob _ k04, b, Ps, T, sg, rfl, kb _ k04, fun w1 hw1 => ⟨w1, rfl, ?_, w1, Ps, T, rfl, hw1, fun l1 nl1 => ?_⟩⟩
    · obtain ⟨pl, tl', nd, dx, vs, h⟩ := hw1
      exact ⟨_, _, h.ob⟩
    have g1 : Keeps H4 (L2.upd H4 l1 (.lst (Ps.map V.str))) := Keeps.new nl1
    refine ⟨ob _ (k04.trans g1), b, Ps, T, sg, rfl, kb _ (k04.trans g1), fun w2 hw2 => ⟨w2, rfl, ?_, w2, Ps, T, rfl, hw2, fun l2 tvs2 nl2 hT2 => ?_⟩⟩
    · obtain ⟨pl, tl', nd, dx, vs, h⟩ := hw2
      exact ⟨_, _, h.ob⟩
    refine ⟨sz3, fun p1 n1 => ?_⟩
    have g2 := Keeps.new (x := .lst tvs2) nl2
    have g3 := Keeps.new (x := .lst [.str sg, .ref l1, .ref l2]) n1
    have k47 := (g1.trans g2).trans g3
    have k07 := k04.trans k47
    refine ⟨_, web _ k07, _, rfl, _, web _ k07, _, rfl, sz3, fun p2 n2 => ?_⟩
    have g4 := Keeps.new (x := .lst [.str sg, .ref pa, .ref ta]) n2
    refine ⟨_, _, All, All, .lst [.str sg, dStrs Ps, .lst (T.map prD)], rfl, at_lst (g4 _ _ upd_same) (Nat.le_of_ble_eq_true rfl) (atl_cons rfl (atl_cons (at_strs (((g2.trans g3).trans g4) _ _ upd_same) (by omega)) (atl_one (at_lst ((g3.trans g4) _ _ upd_same) (by rw [hT2.1]; omega) (at_prs (hT2.keeps ((g2.trans g3).trans g4))))))),
      at_lst upd_same (Nat.le_of_ble_eq_true rfl) (atl_cons rfl (atl_cons (at_strs (g4 _ _ (k07 _ _ hpa)) (by omega)) (atl_one (at_lst (g4 _ _ (k07 _ _ hta)) (by rw [htt.1]; omega) (at_prs (htt.keeps (k07.trans g4))))))), ?_, fun H8 k8 => q H8 ((k07.trans g4).trans k8)⟩
    have := dep_prs T
    simp only [Dat.dep, depL, dStrs, dep_strs]
    omega
end
end K01
namespace K01
open PySem PySem.Spec PyProof.Rows L2 TL HotExc L2H HotLc Tw WX
local macro_rules | `(tactic| walk_at "rd") => `(tactic| simp only [start1, tMakeS, rIndex, tMethP, tG1, rSetOfS, tDisp, tPairs, rSInK, tAug, ipI, wipe, isR, isBool, isInt, isStr, isLst, isTup, tAsg, gName, gSub, tVar, tC, tOp, tUn, tTest, tIfS, tRet, tRetN, tDrop, tB, tAnd, tOr, tNot, tAndV, tOrV, tNotV, tIf, tCB, tCons, tNil, tNext, tCall, tBM, tTup, tLst, rU, rInW, rNinW, Int.reduceNeg, tG, tG2, sP, tFldC, sFldC, tProp, tMeth, tMake, rOwnC, rLenO, rIsC, rNoT, tAddT, tSAddK, rSAddK, rSInK, rSet0K, rSet0T, rMinS, rMaxS, rSortedQ, rSortedT, rEqD, rNeD, rIxD, dcL_eq, dcZ_eq, lcO_eq, forE_eq, forT_eq, lcS_eq, ItX.rIterN, iOwn, List.append_nil, tDisp, tPairs, tCallS, tCallSD, tCallT, StX.tStar, tCallK, tCallKS, rTupOf, tDrop, rI0, rI, rEq, rNe, scal, forR_eq, forR2_eq, forS_eq, forL_eq, lcT_eq, lcRT_eq, lcS_eq, rLenX, rLenS, rListOf, tRevL, rMulS, rRepL, rCatL, rSumN, rMaxN, tBM0, rPop, tAug, ipI,  tPart, tNoPart, CwR.tReplC, rAllK, rInSg, rNinSg, sgn_inj, rAddS, rInSt, tChain, tM1, tM0, rSplitN, rJoinN, exists_eq, rIntI, rIntB, rIntS, rStrI, rAbs, rOrd, rMin, rMax, rIxL, rIxX, rSetL, rAppend, rIxS, rSlS, rSlL, tSl, List.map_cons, List.map_nil, List.replicate_succ, List.replicate_zero, List.length_cons, List.length_nil, Nat.reduceSub, Nat.reduceAdd, Nat.zero_add, Nat.sub_self, List.getElem?_cons_zero, List.getElem?_cons_succ, List.set_cons_zero, List.set_cons_succ, List.append_nil, List.nil_append, List.cons_append, Option.some.injEq, not_true_eq_false, reduceCtorEq, exists_eq_left', exists_eq_left, exists_eq', exists_and_left, exists_and_right, V.int.injEq, V.str.injEq, V.bl.injEq, V.ref.injEq, List.cons.injEq, and_true, true_and, and_assoc, decide_eq_true_eq, Bool.not_eq_true', decide_eq_false_iff_not, ite_true, ite_false, if_true, if_false, Bool.not_true, Bool.not_false, Bool.false_eq_true, eq_self_iff_true, reduceIte, ne_eq, Int.reduceEq, not_false_eq_true])
local macro_rules | `(tactic| walk_at "rt") => `(tactic| try walk_at "rd")
local macro_rules | `(tactic| walk_at "st") => `(tactic| (walk_at "rt"; refine r_seq ?_; walk_at "rt"))
local macro_rules | `(tactic| walk_at "hp") => `(tactic| first | assumption | exact upd_same | (rw [upd_ne (by assumption)]; walk_at "hp"))
local macro_rules | `(tactic| walk_at "ex1") => `(tactic| ((with_reducible refine Exists.intro ?w (And.intro ?hx ?_)); (case hx => first | exact sq_of (by walk_at "hp") | exact .inl (sq_of (by walk_at "hp")) | exact rfl | (show _ = some (HO.lst _); walk_at "hp"))))
local macro_rules | `(tactic| walk_at "ex") => `(tactic| repeat (first | walk_at "ex1" | walk_at "rd"))
abbrev s_oddgood : Stmt := topS 82
theorem sc_oddgood : FnScope ["board", "place", "sign", "due", "told"] ["board", "place", "sign"] (defScope s_oddgood) := ⟨rfl, rfl, rfl, by decide +kernel, rfl, by decide +kernel, by decide +kernel⟩
abbrev s_putgood : Stmt := topS 81
theorem sc_putgood : FnScope ["board", "web", "signs", "place", "sign", "told", "at", "after"] ["board", "web", "signs", "place", "sign"] (defScope s_putgood) := ⟨rfl, rfl, rfl, by decide +kernel, rfl, by decide +kernel, by decide +kernel⟩
theorem IsBoard.o {CW CB b : Addr} {H : Hp} {Ps : List Str} {T : List (Str × Str)} {sg : Str} (h : IsBoard CW CB H b Ps T sg) : ∃ dx fs, H b = some (.ins CB dx fs) := let ⟨w, d, dx, kvs, h⟩ := h; ⟨_, _, h.ob⟩
def spOddG (CW CB : Addr) : Sp := fun vs H Q _ => ∃ (b : Addr) (z s : Str) (Ps : List Str) (T : List (Str × Str)) (sg : Str), vs = [.ref b, .str z, .str s] ∧ IsBoard CW CB H b Ps T sg ∧ z ∉ Ps ∧ s ∉ signs3 ∧ ∀ H', Keeps H H' → Q (.bl true) H'
def spPutG (CW CB : Addr) : Sp := fun vs H Q _ => ∃ (b r : Addr) (z s : Str) (Ps : List Str) (T : List (Str × Str)) (sg : Str), vs = [.ref b, .ref r, .str sg, .str z, .str s] ∧ IsBoard CW CB H b Ps T sg ∧ LW H r Ps T ∧ Wok Ps T ∧ ∀ H', Keeps H H' → Q (.bl true) H'
theorem bear_no {Ps : List Str} {cs : List Nat} {s : Str} (h : ∀ c ∈ cs, sgn c) (hs : s ∉ signs3) : bear Ps cs s = [] := by
  unfold bear
  rw [List.map_eq_nil_iff, List.filter_eq_nil_iff]
  rintro ⟨x, c⟩ hx e
  have hc := (List.of_mem_zip hx).2
  exact hs (of_decide_eq_true e ▸ sgn_mem (h c hc))
theorem dep_rais (k : Str) (d : Dat) (h : d.dep = 0) : (dRaised k [d]).dep ≤ 3 := by
  simp only [dRaised, dStrs, Dat.dep, depL, dep_strs, h]
  decide
theorem put_cut {sg : Str} {i c : Nat} (hi : i < (tl sg).length) : cutS sg none (some (i : Int)) ++ ⟨#[c]⟩ ++ cutS sg (some ((i : Int) + 1)) none = putS sg i c := by
  have e := S_tl sg
  generalize tl sg = l at e hi ⊢
  subst e
  rw [cut_pre, show ((i : Int) + 1) = ((i + 1 : Nat) : Int) by omega, cut_suf, show (⟨#[c]⟩ : Str) = S [c] from rfl, S_app, S_app, putS, tl_S]
  congr 1
  rw [List.set_eq_take_append_cons_drop, if_pos hi, List.append_assoc]
  rfl
theorem eq_b {K : PySem.W.Frag} {CW CB : Addr} {H : Hp} {b e : Addr} {Ps Ps' : List Str} {T T' : List (Str × Str)} {sg sg' : Str} {Q : VK} {E : XK} (nB : PySem.W.notFirst K CB (.ref CB) = true) (h : IsBoard CW CB H b Ps T sg) (h' : IsBoard CW CB H e Ps' T' sg') (q : Q (.bl (decide ((Ps = Ps' ∧ T = T') ∧ sg = sg'))) H) :
    (∃ x x_1, H b = some (.ins CB x x_1)) ∧ Rt K CB (.ref e) H ∧ spBeq CW CB [.ref b, .ref e] H Q E := by
  obtain ⟨dx', fs', o'⟩ := h'.o
  exact ⟨h.o, .inr (.inr ⟨e, CB, _, _, rfl, o', nB⟩), b, _, Ps, T, sg, rfl, h, .inl ⟨e, Ps', T', sg', rfl, h', q⟩⟩
theorem mem_dlp {x : Str} : x ∈ [Str.ofString "d", Str.ofString "l", Str.ofString "."] ↔ x ∈ signs3 := by
  unfold signs3
  simp only [List.mem_cons, List.not_mem_nil, or_false]
  constructor
  · rintro (h | h | h)
    · exact .inr (.inl h)
    · exact .inr (.inr h)
    · exact .inl h
  · rintro (h | h | h)
    · exact .inr (.inr h)
    · exact .inl h
    · exact .inr (.inl h)
theorem put_same {sg : Str} {i c c0 : Nat} (h : (tl sg)[i]? = some c0) : putS sg i c = sg ↔ c0 = c := by
  have hi := lt_of_get h
  constructor
  · intro e
    have e2 := congrArg (fun z => (tl z)[i]?) e
    simp only [putS, tl_S] at e2
    rw [List.getElem?_set_self hi, h] at e2
    exact (Option.some.inj e2).symm
  · rintro rfl
    unfold putS
    refine tl_inj ?_
    rw [tl_S]
    rw [← (List.getElem?_eq_some_iff.mp h).2]
    exact List.set_getElem_self hi
section
variable {P : Program} {w : World} {K : PySem.W.Frag} {mg : Str → Option Value} {base : Heap}
theorem ok_oddgood {c_Web c_Board f f_like f_due f_ts f_th f_Bbe : Addr} {fd fd_like fd_due fd_ts fd_th fd_Bbe : FuncData} (B : Bi mg) (D : Dn K mg "_law_odd_good" s_oddgood ["board", "place", "sign"] f fd) (D_like : Dn K mg "_law_like" s_like ["one", "two"] f_like fd_like) (G_like : FnOk P w K mg base CX0 6 f_like fd_like ["one", "two"] (spLike 5))
    (D_due : Dn K mg "_law_due" s_due ["kind", "values"] f_due fd_due) (G_due : FnOk P w K mg base CX0 1 f_due fd_due ["kind", "values"] spDue)
    (D_toldsign : Dn K mg "_law_told_sign" s_toldsign ["board", "place"] f_ts fd_ts) (G_toldsign : FnOk P w K mg base CX0 9 f_ts fd_ts ["board", "place"] (spToldS c_Web c_Board fun c => .str ⟨#[c]⟩)) (D_toldhand : Dn K mg "_law_told_hand" s_toldhand ["board", "place"] f_th fd_th) (G_toldhand : FnOk P w K mg base CX0 9 f_th fd_th ["board", "place"] (spToldS c_Web c_Board hndD))
    (CL_Board : Cls K c_Board) (ME_mBoard_bearing : Meth K c_Board "bearing" f_Bbe) (G_mBoard_bearing : FnOk P w K mg base CX0 2 f_Bbe fd_Bbe ["self", "sign"] (spBbe c_Web c_Board)) (B_mBoard_bearing : Binds K fd_Bbe ["self", "sign"] []) : FnOk P w K mg base CX0 10 f fd ["board", "place", "sign"] (spOddG c_Web c_Board) := by
  refine D.F.ok sc_oddgood (fun vs H Q E h => ?_) (fun cdv A outer s H vs Q E hr h => ?_)
  · obtain ⟨b, z, s, Ps, T, sg, rfl, _⟩ := h
    rfl
  · obtain ⟨b, z, x, Ps, T, sg, rfl, hb, hz, hx, q⟩ := h
    refine ⟨_, (pss_cons (ps_set (i := 3) sc_oddgood.nd rfl (.inl rfl) (pe_call G_due (hr.mono (by omega)) (by rfl) D_due.g D_due.F.kp D_due.b .nil pass0 (pa_cons pe_str (pa_cons (pe_tup (pa_cons (pv 1) pa_nil)) pa_nil))))
      (pss_cons (ps_set (i := 4) sc_oddgood.nd rfl (.inl rfl) (pe_lst (pa_cons (pe_call G_toldsign (hr.mono (by omega)) (by rfl) D_toldsign.g D_toldsign.F.kp D_toldsign.b .nil pass0 (pa_cons (pv 0) (pa_cons (pv 1) pa_nil))) (pa_cons (pe_call G_toldhand (hr.mono (by omega)) (by rfl) D_toldhand.g D_toldhand.F.kp D_toldhand.b .nil pass0 (pa_cons (pv 0) (pa_cons (pv 1) pa_nil))) (pa_cons (pe_meth (pv 0) CL_Board ME_mBoard_bearing G_mBoard_bearing (hr.mono (by omega)) B_mBoard_bearing .nil pass0 (pa_cons (pv 2) pa_nil)) pa_nil)))))
      (pss_one (ps_ret (pe_call G_like (hr.mono (by omega)) (by rfl) D_like.g D_like.F.kp D_like.b .nil pass0 (pa_cons (pv 4) (pa_cons (pe_lst (pa_cons (pv 3) (pa_cons (pv 3) (pa_cons (pe_lst pa_nil) pa_nil)))) pa_nil))))))), ?_⟩
    have sz1 : 1 ≤ sizeLine := Nat.le_of_ble_eq_true rfl
    have sz3 : 3 ≤ sizeLine := Nat.le_of_ble_eq_true rfl
    have kb : ∀ H', Keeps H H' → IsBoard c_Web c_Board H' b Ps T sg := fun H' k => hb.keep k
    obtain ⟨dxb, fsb, hob, hno⟩ : ∃ dx fs, H b = some (.ins c_Board dx fs) ∧ fs.lookup (Str.ofString "bearing") = none := let ⟨w, d, dx, kvs, h⟩ := hb; ⟨_, _, h.ob, boardF_no _ _ _⟩
    have sgok : SgOk Ps.length sg := let ⟨w, d, dx, kvs, h⟩ := hb; h.sg
    walk_at "st"
    refine ⟨sz1, fun p0 n0 => ⟨_, p0, _, [.str z], rfl, upd_same, atl_one rfl, Nat.le_of_ble_eq_true rfl, fun r0 H1 k1 a0 => ?_⟩⟩
    have k01 := (Keeps.new n0).trans k1
    walk_at "st"
    refine ⟨b, z, Ps, T, sg, rfl, kb _ k01, fun i c h => absurd (List.mem_of_getElem? h) hz, fun _ r1 H2 k2 a1 => ⟨b, z, Ps, T, sg, rfl, kb _ (k01.trans k2), fun i c h => absurd (List.mem_of_getElem? h) hz, fun _ r2 H3 k3 a2 => ?_⟩⟩
    have k03 := (k01.trans k2).trans k3
    refine ⟨_, _, k03 _ _ hob, hno, b, x, Ps, T, sg, rfl, kb _ k03, fun l4 H4 k4 nl4 hl4 => ?_⟩
    rw [bear_no sgok.al hx] at hl4
    refine ⟨sz3, fun p1 n1 => ?_⟩
    have g1 := Keeps.new (x := .lst [.ref r1, .ref r2, .ref l4]) n1
    walk_at "rt"
    refine ⟨Nat.zero_le _, fun p2 n2 => ⟨sz3, fun p3 n3 => ?_⟩⟩
    have g2 := Keeps.new (x := .lst []) n2
    have g3 := Keeps.new (x := .lst [.ref r0, .ref r0, .ref p2]) n3
    have k14 := (k2.trans k3).trans k4
    have gg := (g1.trans g2).trans g3
    have dp := dep_rais (Str.ofString "NoPlace") (.str z) rfl
    refine ⟨_, _, All, All, .lst [dRaised (Str.ofString "NoPlace") [.str z], dRaised (Str.ofString "NoPlace") [.str z], .lst []], rfl, at_lst ((g2.trans g3) _ _ upd_same) (Nat.le_of_ble_eq_true rfl) (atl_cons (At.keepA a1 ((k3.trans k4).trans gg)) (atl_cons (At.keepA a2 (k4.trans gg)) (atl_one (at_lst (gg _ _ hl4) (Nat.zero_le _) rfl)))),
      at_lst upd_same (Nat.le_of_ble_eq_true rfl) (atl_cons (At.keepA a0 (k14.trans gg)) (atl_cons (At.keepA a0 (k14.trans gg)) (atl_one (at_lst (g3 _ _ upd_same) (Nat.zero_le _) rfl)))), ?_, fun H8 k8 => q H8 (((k01.trans k14).trans gg).trans k8)⟩
    simp only [Dat.dep, depL]
    omega
theorem ok_putgood {c_Web c_Board f f_like f_due f_tp f_shows f_Beq : Addr} {fd fd_like fd_due fd_tp fd_shows fd_Beq : FuncData} (B : Bi mg) (D : Dn K mg "_law_put_good" s_putgood ["board", "web", "signs", "place", "sign"] f fd) (D_like : Dn K mg "_law_like" s_like ["one", "two"] f_like fd_like) (G_like : FnOk P w K mg base CX0 6 f_like fd_like ["one", "two"] (spLike 5))
    (D_due : Dn K mg "_law_due" s_due ["kind", "values"] f_due fd_due) (G_due : FnOk P w K mg base CX0 1 f_due fd_due ["kind", "values"] spDue)
    (D_toldput : Dn K mg "_law_told_put" s_toldput ["board", "place", "sign"] f_tp fd_tp) (G_toldput : FnOk P w K mg base CX0 9 f_tp fd_tp ["board", "place", "sign"] (spToldP c_Web c_Board))
    (D_shows : Dn K mg "_law_shows" s_shows ["board", "web", "signs"] f_shows fd_shows) (G_shows : FnOk P w K mg base CX0 10 f_shows fd_shows ["board", "web", "signs"] (spShw c_Web c_Board))
    (SM_mBoard_eq : Sm K c_Board "__eq__" f_Beq) (G_mBoard_eq : FnOk P w K mg base CX0 3 f_Beq fd_Beq ["self", "other"] (spBeq c_Web c_Board)) (B_mBoard_eq : Binds K fd_Beq ["self", "other"] []) (NE_Board : NeC K c_Board) (nB : PySem.W.notFirst K c_Board (.ref c_Board) = true) : FnOk P w K mg base CX0 11 f fd ["board", "web", "signs", "place", "sign"] (spPutG c_Web c_Board) := by
  refine D.F.ok sc_putgood (fun vs H Q E h => ?_) (fun cdv A outer s H vs Q E hr h => ?_)
  · obtain ⟨b, r, z, x, Ps, T, sg, rfl, _⟩ := h
    rfl
  · obtain ⟨b, r, z, x, Ps, T, sg, rfl, hb, hw, wok, q⟩ := h
    refine ⟨_, (pss_cons (ps_set (i := 5) sc_putgood.nd rfl (.inl rfl) (pe_call G_toldput (hr.mono (by omega)) (by rfl) D_toldput.g D_toldput.F.kp D_toldput.b .nil pass0 (pa_cons (pv 0) (pa_cons (pv 3) (pa_cons (pv 4) pa_nil)))))
      (pss_cons (ps_if (pt_cmpR (op_ninW (K := K)) (pv 3) (pe_ix (ix_sxK (K := K)) (pv 1) pe_int (fun _ _ => rfl)) (by rfl)) (pss_one (ps_ret (pe_call G_like (hr.mono (by omega)) (by rfl) D_like.g D_like.F.kp D_like.b .nil pass0 (pa_cons (pe_ix (ix_sxK (K := K)) (pv 5) pe_int (fun _ _ => rfl)) (pa_cons (pe_call G_due (hr.mono (by omega)) (by rfl) D_due.g D_due.F.kp D_due.b .nil pass0 (pa_cons pe_str (pa_cons (pe_tup (pa_cons (pv 3) pa_nil)) pa_nil))) pa_nil))))) pss_nil)
      (pss_cons (ps_if (pt_cmpR (op_ninW (K := K)) (pv 4) (pe_lst (pa_cons pe_str (pa_cons pe_str (pa_cons pe_str pa_nil)))) (by rfl)) (pss_one (ps_ret (pe_call G_like (hr.mono (by omega)) (by rfl) D_like.g D_like.F.kp D_like.b .nil pass0 (pa_cons (pe_ix (ix_sxK (K := K)) (pv 5) pe_int (fun _ _ => rfl)) (pa_cons (pe_call G_due (hr.mono (by omega)) (by rfl) D_due.g D_due.F.kp D_due.b .nil pass0 (pa_cons pe_str (pa_cons (pe_tup (pa_cons pe_int pa_nil)) pa_nil))) pa_nil))))) pss_nil)
      (pss_cons (ps_if (pt_cmpR op_notN (pe_ix (ix_sxK (K := K)) (pv 5) pe_int (fun _ _ => rfl)) pe_non (nomark _)) (pss_one (ps_ret pe_bl)) pss_nil)
      (pss_cons (ps_set (i := 6) sc_putgood.nd rfl (.inl rfl) (pe_bm PySem.F.plainAttrs_list PySem.F.slot_list_index PySem.F.type_list_index mt_index (pe_ix (ix_sxK (K := K)) (pv 1) pe_int (fun _ _ => rfl)) (pa_cons (pv 3) pa_nil)))
      (pss_cons (ps_set (i := 7) sc_putgood.nd rfl (.inl rfl) (pe_op op_addS (pe_op op_addS (pe_slice sl_str (pv 2) po_none (po_some (pv 6))) (pv 4)) (pe_slice sl_str (pv 2) (po_some (pe_op op_add (pv 6) pe_int)) po_none)))
      (pss_one (ps_ret (pe_and (pe_call G_shows (hr.mono (by omega)) (by rfl) D_shows.g D_shows.F.kp D_shows.b .nil pass0 (pa_cons (pe_ix (ix_sxK (K := K)) (pv 5) pe_int (fun _ _ => rfl)) (pa_cons (pv 1) (pa_cons (pv 7) pa_nil)))) (pe_one (pe_call G_like (hr.mono (by omega)) (by rfl) D_like.g D_like.F.kp D_like.b .nil pass0 (pa_cons (pe_cmpR (op_eqOK (K := K) SM_mBoard_eq G_mBoard_eq (hr.mono (by omega)) B_mBoard_eq pass0 NE_Board.ns NE_Board.ni) (pe_ix (ix_sxK (K := K)) (pv 5) pe_int (fun _ _ => rfl)) (pv 0) (nomark _)) (pa_cons (pe_cmpR op_eq (pe_ix ix_str (pv 2) (pv 6) (fun _ _ => rfl)) (pv 4) (nomark _)) pa_nil))))))))))))), ?_⟩
    have sz1 : 1 ≤ sizeLine := Nat.le_of_ble_eq_true rfl
    have sz3 : 3 ≤ sizeLine := Nat.le_of_ble_eq_true rfl
    have F := wok.fit
    have h20 := F.p20
    have sgok : SgOk Ps.length sg := let ⟨w, d, dx, kvs, h⟩ := hb; h.sg
    have el : sg.length = (tl sg).length := len_tl sg
    obtain ⟨pa, ta, ⟨nv, hr0, _⟩, hpa, _⟩ := id hw
    have web : ∀ H', Keeps H H' → SqL K H' r [.ref pa, .ref ta, .ref nv] ∨ SqT K H' r [.ref pa, .ref ta, .ref nv] := fun H' k => .inr (tup_at (k _ _ hr0))
    walk_at "st"
    refine ⟨b, z, x, Ps, T, sg, rfl, hb, fun hz r1 t1 H1 k1 hr1 a1 => ?_, fun hz hx r1 t1 H1 k1 hr1 a1 => ?_, fun i c hi hx hc r1 m H1 k1 hr1 hm => ?_⟩
    · walk_at "st"
      refine ⟨_, web _ k1, _, rfl, pa, rfl, Ps, .inl (sq_of (k1 _ _ hpa)), ?_⟩
      rw [if_pos hz]
      have dp := dep_rais (Str.ofString "NoPlace") (.str z) rfl
      exact ⟨_, .inr (tup_at hr1), _, rfl, sz1, fun p0 n0 => ⟨_, p0, _, [.str z], rfl, upd_same, atl_one rfl, Nat.le_of_ble_eq_true rfl, fun r2 H2 k2 a2 => ⟨_, _, All, All, _, rfl, At.keepA a1 ((Keeps.new n0).trans k2), a2, Nat.le_trans dp (by decide), fun H8 k8 => q H8 (((k1.trans (Keeps.new n0)).trans k2).trans k8)⟩⟩⟩
    · walk_at "st"
      refine ⟨_, web _ k1, _, rfl, pa, rfl, Ps, .inl (sq_of (k1 _ _ hpa)), ?_⟩
      rw [if_neg (fun g => g hz)]
      walk_at "st"
      refine ⟨sz3, fun l nl => ⟨[Str.ofString "d", Str.ofString "l", Str.ofString "."], .inl (sq_of upd_same), ?_⟩⟩
      rw [if_pos (fun g => hx (mem_dlp.mp g))]
      have dp := dep_rais (Str.ofString "BadSigns") (.int 0) rfl
      have g1 := Keeps.new (x := .lst [V.str (Str.ofString "d"), V.str (Str.ofString "l"), V.str (Str.ofString ".")]) nl
      exact ⟨_, .inr (tup_at (g1 _ _ hr1)), _, rfl, sz1, fun p0 n0 => ⟨_, p0, _, [.int 0], rfl, upd_same, atl_one rfl, Nat.le_of_ble_eq_true rfl, fun r2 H2 k2 a2 => ⟨_, _, All, All, _, rfl, At.keepA a1 ((g1.trans (Keeps.new n0)).trans k2), a2, Nat.le_trans dp (by decide), fun H8 k8 => q H8 ((((k1.trans g1).trans (Keeps.new n0)).trans k2).trans k8)⟩⟩⟩
    · have zP := List.mem_of_getElem? hi
      have il := lt_of_get hi
      have hx3 : x ∈ signs3 := hx ▸ sgn_mem hc
      walk_at "st"
      refine ⟨_, web _ k1, _, rfl, pa, rfl, Ps, .inl (sq_of (k1 _ _ hpa)), ?_⟩
      rw [if_neg (fun g => g zP)]
      walk_at "st"
      refine ⟨sz3, fun l nl => ⟨[Str.ofString "d", Str.ofString "l", Str.ofString "."], .inl (sq_of upd_same), ?_⟩⟩
      rw [if_neg (fun g => g (mem_dlp.mpr hx3))]
      have g1 := Keeps.new (x := .lst [V.str (Str.ofString "d"), V.str (Str.ofString "l"), V.str (Str.ofString ".")]) nl
      have k02 := k1.trans g1
      have hr2 := g1 _ _ hr1
      have hm2 := hm.keep g1
      have hb2 := hb.keep k02
      have hw2 := hw.keep k02
      have hpa2 := k02 _ _ hpa
      have web2 := web _ k02
      generalize L2.upd H1 l (.lst [V.str (Str.ofString "d"), V.str (Str.ofString "l"), V.str (Str.ofString ".")]) = H2 at *
      walk_at "st"
      refine ⟨_, .inr (tup_at hr2), _, rfl, ?_⟩
      rw [if_neg (fun g => g rfl)]
      walk_at "st"
      refine ⟨_, web2, _, rfl, .inl ⟨rfl, _, sq_of hpa2⟩, pa, rfl, _, sq_of hpa2, rfl, ?_, i, .str z, by rw [List.getElem?_map, hi]; rfl, ?_, fun mm z' hmm hz' => ?_, ?_⟩
      · rw [List.all_eq_true]
        intro v hv
        obtain ⟨y, _, rfl⟩ := List.mem_map.mp hv
        rfl
      · exact decide_eq_true rfl
      · obtain ⟨y, hy, rfl⟩ := get_map hz'
        refine decide_eq_false fun e => ?_
        have e2 : y = z := e
        subst e2
        have : mm = i := (List.getElem?_inj (lt_of_get hy) F.pnd).mp (hy.trans hi.symm)
        omega
      walk_at "st"
      subst hx
      have lt := sgok.len
      obtain ⟨c0, hc0⟩ : ∃ c0, (tl sg)[i]? = some c0 := ⟨_, List.getElem?_eq_getElem (by omega)⟩
      have l1 := cut_len sg none (some (i : Int))
      have l2 := cut_len sg (some ((i : Int) + 1)) none
      have l3 : ({ cps := #[c] } : Str).length = 1 := rfl
      have l4 := app_len (cutS sg none (some (i : Int))) { cps := #[c] }
      refine ⟨line_of (by omega), line_of (by omega), line_of (by omega), line_of (by omega), _, .inr (tup_at hr2), _, rfl, ?_⟩
      rw [put_cut (by omega)]
      refine ⟨m, r, Ps, T, putS sg i c, rfl, hm2, hw2, wok, fun H3 k3 => ⟨true, rfl, ?_⟩⟩
      rw [if_pos rfl]
      refine ⟨_, .inr (tup_at (k3 _ _ hr2)), _, rfl, m, rfl, eq_b nB (hm2.keep k3) (hb2.keep k3) ⟨_, rfl, line_of (by omega), c0, atI_nat hc0, ?_⟩⟩
      refine ⟨_, _, All, All, .bl (decide ((Ps = Ps ∧ T = T) ∧ putS sg i c = sg)), rfl, rfl, ?_, Nat.zero_le _, fun H8 k8 => q H8 ((k02.trans k3).trans k8)⟩
      refine congrArg V.bl (decide_eq_decide.mpr ?_)
      rw [put_same hc0]
      constructor
      · intro e
        refine ⟨⟨rfl, rfl⟩, ?_⟩
        injection e with e
        injection e with e
        injection e
      · rintro ⟨_, rfl⟩
        rfl
end
end K01
namespace K01
open PySem PySem.Spec PyProof.Rows L2 TL HotExc L2H HotLc Tw WX
theorem StoreAt.n2 {H : Hp} {a c p : Addr} {x y : V} (S : StoreAt H a c) (h : H p = some (.lst [x, y])) : p ≠ a := fun z => by
  obtain ⟨⟨cells, pos, val, turn, seed, e, _⟩, _⟩ := S
  rw [z, e] at h
  have h := HO.lst.inj (Option.some.inj h)
  simp at h
theorem StoreAt.n3 {H : Hp} {a c p : Addr} {x y z : V} (S : StoreAt H a c) (h : H p = some (.lst [x, y, z])) : p ≠ a := fun e0 => by
  obtain ⟨⟨cells, pos, val, turn, seed, e, _⟩, _⟩ := S
  rw [e0, e] at h
  have h := HO.lst.inj (Option.some.inj h)
  simp at h
theorem StoreAt.n4 {H : Hp} {a c p : Addr} {x y z u : V} (S : StoreAt H a c) (h : H p = some (.lst [x, y, z, u])) : p ≠ a := fun e0 => by
  obtain ⟨⟨cells, pos, val, turn, seed, e, _⟩, _⟩ := S
  rw [e0, e] at h
  have h := HO.lst.inj (Option.some.inj h)
  simp at h
theorem StoreAt.nI {H : Hp} {a c p C dx : Addr} {fs : List (Str × V)} (S : StoreAt H a c) (h : H p = some (.ins C dx fs)) : p ≠ a := fun z => by
  obtain ⟨⟨cells, pos, val, turn, seed, e, _⟩, _⟩ := S
  rw [z, e] at h
  cases h
theorem IsWeb.but {C : Addr} {H H' : Hp} {a c x : Addr} {Ps : List Str} {T : List (Str × Str)} (h : IsWeb C H x Ps T) (S : StoreAt H a c) (b : But a H H') : IsWeb C H' x Ps T := by
  obtain ⟨pl, tl, nd, dx, vs, W⟩ := h
  exact ⟨pl, tl, nd, dx, vs, b _ _ (S.nI W.ob) W.ob, b _ _ (S.nS W.pl_) W.pl_, b _ _ (S.nP W.tl_ W.pt) W.tl_, W.pt.but S b, W.nr.but b (fun p xs h => S.nS h) (fun p kvs h => S.nK h)⟩
theorem mk_webF {CW x dx p t : Addr} {H : Hp} {Ps : List Str} {E : List (Str × Str)} {Qc : Hp → Prop} {EE : XK} (hx : H x = none) (hd : H dx = none) (ne : ¬ dx = x) (hA : Args H p t Ps E) (F : Fit Ps E) (q : ∀ H', Keeps H H' → IsWebF CW H H' x (sortS Ps) (sortP (E.map ordP)) → Qc H') :
    spInW CW [.ref x, .ref p, .ref t] (L2.upd (L2.upd H dx (.own x)) x (.ins CW dx [])) (fun v H2 => v = .non ∧ Qc H2) EE := by
  have h2 : L2.upd H dx (.own x) x = none := (upd_ne (fun z => ne z.symm)).trans hx
  have k : Keeps H (L2.upd (L2.upd H dx (.own x)) x (.ins CW dx [])) := (Keeps.new hd).trans (Keeps.new h2)
  exact ⟨x, p, t, dx, Ps, E, rfl, upd_same, hA.keep k, F, fun H' b h => ⟨rfl, q H' (fun a o e => b _ _ (fun z => by rw [z, hx] at e; cases e) (k _ _ e)) (h.old k)⟩⟩
theorem IsWebF.of {C : Addr} {H1 H0 H : Hp} {m : Addr} {Ps : List Str} {T : List (Str × Str)} (h : IsWebF C H1 H m Ps T) (f : ∀ p, H1 p = none → H0 p = none) : IsWebF C H0 H m Ps T := by
  obtain ⟨pl, tl, nd, dx, vs, W, h1, h2, h3, h4⟩ := h
  exact ⟨pl, tl, nd, dx, vs, W, f _ h1, f _ h2, f _ h3, fun kvs' k' l e' hv => f _ (h4 kvs' k' l e' hv)⟩
theorem IsBoard.but {CW CB : Addr} {H H' : Hp} {a c x : Addr} {Ps : List Str} {T : List (Str × Str)} {sg : Str} (h : IsBoard CW CB H x Ps T sg) (S : StoreAt H a c) (b : But a H H') : IsBoard CW CB H' x Ps T sg := by
  obtain ⟨w, d, dx, kvs, B⟩ := h
  exact ⟨w, d, dx, kvs, b _ _ (S.nI B.ob) B.ob, B.web.but S b, b _ _ (S.nK B.tab) B.tab, B.val, B.dom, B.ok, B.sg⟩
theorem Wok.self {Ps : List Str} {T : List (Str × Str)} (W : Wok Ps T) : WebOk Ps T := by
  have := W.fit.ok
  rw [W.ps, W.to, W.ts] at this
  exact this
end K01
namespace K01
open PySem PySem.Spec PyProof.Rows L2 TL HotExc Tw WX
local macro_rules | `(tactic| walk_at "rd") => `(tactic| simp only [start1, wipe, isR, isBool, isInt, isStr, isLst, isTup, tAsg, gName, gSub, tVar, tC, tOp, tUn, tTest, tIfS, tRet, tRetN, tDrop, tB, tAnd, tOr, tNot, tAndV, tOrV, tNotV, tIf, tCB, tCons, tNil, tNext, tCall, tBM, tTup, tLst, rU, rInW, rNinW, Int.reduceNeg, tG, tG2, sP, tFldC, sFldC, tProp, tMeth, tMake, rOwnC, rLenO, rIsC, rNoT, tAddT, tSAddK, rSAddK, rSInK, rSet0K, rSet0T, rMinS, rMaxS, rSortedQ, rSortedT, rEqD, rNeD, rIxD, dcL_eq, dcZ_eq, lcO_eq, forE_eq, forT_eq, lcS_eq, ItX.rIterN, iOwn, List.append_nil, tDisp, tPairs, tCallS, tCallSD, tCallT, StX.tStar, tCallK, tCallKS, rTupOf, tDrop, rI0, rI, rEq, rNe, scal, forR_eq, forR2_eq, forS_eq, forL_eq, lcT_eq, lcRT_eq, lcS_eq, rLenX, rLenS, rListOf, tRevL, rMulS, rRepL, rCatL, rSumN, rMaxN, tBM0, rPop, tAug, ipI,  tPart, tNoPart, CwR.tReplC, rAllK, rInSg, rNinSg, sgn_inj, rAddS, rInSt, tChain, tM1, tM0, rSplitN, rJoinN, exists_eq, rIntI, rIntB, rIntS, rStrI, rAbs, rOrd, rMin, rMax, rIxL, rIxX, rSetL, rAppend, rIxS, rSlS, rSlL, tSl, List.map_cons, List.map_nil, List.replicate_succ, List.replicate_zero, List.length_cons, List.length_nil, Nat.reduceSub, Nat.reduceAdd, Nat.zero_add, Nat.sub_self, List.getElem?_cons_zero, List.getElem?_cons_succ, List.set_cons_zero, List.set_cons_succ, List.append_nil, List.nil_append, List.cons_append, Option.some.injEq, not_true_eq_false, reduceCtorEq, exists_eq_left', exists_eq_left, exists_eq', exists_and_left, exists_and_right, V.int.injEq, V.str.injEq, V.bl.injEq, V.ref.injEq, List.cons.injEq, and_true, true_and, and_assoc, decide_eq_true_eq, Bool.not_eq_true', decide_eq_false_iff_not, ite_true, ite_false, if_true, if_false, Bool.not_true, Bool.not_false, Bool.false_eq_true, eq_self_iff_true, reduceIte, ne_eq, Int.reduceEq, not_false_eq_true])
local macro_rules | `(tactic| walk_at "rt") => `(tactic| try walk_at "rd")
local macro_rules | `(tactic| walk_at "st") => `(tactic| (walk_at "rt"; refine r_seq ?_; walk_at "rt"))
local macro_rules | `(tactic| walk_at "hp") => `(tactic| first | assumption | exact upd_same | (rw [upd_ne (by assumption)]; walk_at "hp"))
local macro_rules | `(tactic| walk_at "ex1") => `(tactic| ((with_reducible refine Exists.intro ?w (And.intro ?hx ?_)); (case hx => first | exact sq_of (by walk_at "hp") | exact .inl (sq_of (by walk_at "hp")) | exact rfl | (show _ = some (HO.lst _); walk_at "hp"))))
local macro_rules | `(tactic| walk_at "ex") => `(tactic| repeat (first | walk_at "ex1" | walk_at "rd"))

abbrev s_text : Stmt := topS 60
theorem sc_text : FnScope ["store", "high", "many", "found", "k", "kind"] ["store", "high"] (defScope s_text) := ⟨rfl, rfl, rfl, by decide +kernel, rfl, by decide +kernel, by decide +kernel⟩
theorem joinL_nil_len : ∀ ps : List (List Nat), (joinL [] ps).length = (ps.map (·.length)).sum
  | [] => rfl
  | [p] => by
    show p.length = p.length + 0
    omega
  | p :: q :: r => by
    have ih := joinL_nil_len (q :: r)
    show (p ++ ([] ++ joinL [] (q :: r))).length = p.length + ((q :: r).map (·.length)).sum
    rw [List.length_append, List.nil_append, ih]
theorem sum_ones : ∀ (ws : List Str), (∀ x ∈ ws, x.length = 1) → (ws.map (·.length)).sum = ws.length
  | [], _ => rfl
  | x :: r, h => by
    rw [List.map_cons, List.sum_cons, sum_ones r fun y hy => h y (List.mem_cons_of_mem _ hy), h x List.mem_cons_self, List.length_cons]
    omega
theorem join0_len {y : Str} (hy : tl y = []) {ws : List Str} (h : ∀ x ∈ ws, x.length = 1) : (Txt.join y ws).length = ws.length := by
  rw [len_tl, join_eq, tl_join, hy, joinL_nil_len, List.map_map]
  have e : ws.map (List.length ∘ tl) = ws.map (·.length) := List.map_congr_left fun p _ => (len_tl p).symm
  rw [e, sum_ones ws h]
theorem tl_emp : tl (Str.ofString "") = [] := by decide +kernel
def spSot : Sp := fun vs H Q _ => vs = [] ∧ ∀ z : Str, tl z ≠ [] → z.length ≤ 900 → Q (.str z) H
def TextLe (n : Int) (v : V) : Prop := ∃ z : Str, v = .str z ∧ (z.length : Int) ≤ n
def spText : Sp := fun vs H Q _ => ∃ (a c : Addr) (hi : Int), vs = [.ref a, .int hi] ∧ StoreAt H a c ∧ 0 ≤ hi ∧ hi ≤ 1000 ∧ Drawn H a c (TextLe hi) Q
section
variable {P : Program} {w : World} {K : PySem.W.Frag} {mg : Str → Option Value} {base : Heap}
theorem ok_sot {f : Addr} {fd : FuncData} (B : Bi mg) (D : Dn K mg "_law_signs_of_texts" s_signsoftexts [] f fd) : FnOk P w K mg base CX0 1 f fd [] spSot := by
  refine D.F.ok sc_signsoftexts (fun vs H Q E h => ?_) (fun cdv A outer s H vs Q E hr h => ?_)
  · obtain ⟨rfl, _⟩ := h
    rfl
  · obtain ⟨rfl, q⟩ := h
    refine ⟨_, (pss_cons (ps_set (i := 0) sc_signsoftexts.nd rfl (.inl rfl) pe_str)
      (pss_one (ps_ret (pe_op op_addS (pv 0) pe_str)))), ?_⟩
    walk_at "st"
    refine ⟨by decide +kernel, q _ (by decide +kernel) (by decide +kernel)⟩
theorem ok_text {f f_take f_size f_pick f_signs : Addr} {fd fd_take fd_size fd_pick fd_signs : FuncData} (B : Bi mg) (D : Dn K mg "_law_text" s_text ["store", "high"] f fd)
    (D_take : Dn K mg "_law_take" s_take ["store", "many"] f_take fd_take) (D_size : Dn K mg "_law_size" s_size ["store", "low", "high"] f_size fd_size) (D_pick : Dn K mg "_law_pick" s_pick ["store", "row"] f_pick fd_pick) (D_signsoftexts : Dn K mg "_law_signs_of_texts" s_signsoftexts [] f_signs fd_signs)
    (G_take : FnOk P w K mg base CX0 2 f_take fd_take ["store", "many"] spTake) (G_size : FnOk P w K mg base CX0 3 f_size fd_size ["store", "low", "high"] spRange) (G_pick : FnOk P w K mg base CX0 3 f_pick fd_pick ["store", "row"] spPick) (G_signsoftexts : FnOk P w K mg base CX0 1 f_signs fd_signs [] spSot) :
    FnOk P w K mg base CX0 4 f fd ["store", "high"] spText := by
  refine D.F.ok sc_text (fun vs H Q E h => ?_) (fun cdv A outer s H vs Q E hr h => ?_)
  · obtain ⟨a, c, hi, rfl, _⟩ := h
    rfl
  · obtain ⟨a, c, hi, rfl, S, h0, h1, q⟩ := h
    refine ⟨_, (pss_cons (ps_set (i := 2) sc_text.nd rfl (.inl rfl) (pe_call G_size (hr.mono (by omega)) (by rfl) D_size.g D_size.F.kp D_size.b .nil pass0 (pa_cons (pv 0) (pa_cons pe_int (pa_cons (pv 1) pa_nil)))))
      (pss_cons (ps_set (i := 3) sc_text.nd rfl (.inl rfl) (pe_lst pa_nil))
      (pss_cons (ps_for PassesOwn.never rfl (pi_range1 (by rfl) B.range (pa_cons (pv 2) pa_nil)) (pg_name (i := 4) sc_text.nd rfl (.inl rfl)) (pss_cons (ps_set (i := 5) sc_text.nd rfl (.inl rfl) (pe_call G_take (hr.mono (by omega)) (by rfl) D_take.g D_take.F.kp D_take.b .nil pass0 (pa_cons (pv 0) (pa_cons pe_int pa_nil))))
      (pss_one (ps_if (pt_cmpR op_eq (pv 5) pe_int (nomark _)) (pss_one (ps_expr (pe_bm PySem.F.plainAttrs_list PySem.F.slot_list_append PySem.F.type_list_append mt_append (pv 3) (pa_cons pe_str pa_nil)))) (pss_one (ps_if (pt_cmpR op_eq (pv 5) pe_int (nomark _)) (pss_one (ps_expr (pe_bm PySem.F.plainAttrs_list PySem.F.slot_list_append PySem.F.type_list_append mt_append (pv 3) (pa_cons pe_str pa_nil)))) (pss_one (ps_if (pt_cmpR op_lt (pv 5) pe_int (nomark _)) (pss_one (ps_expr (pe_bm PySem.F.plainAttrs_list PySem.F.slot_list_append PySem.F.type_list_append mt_append (pv 3) (pa_cons (pe_call G_pick (hr.mono (by omega)) (by rfl) D_pick.g D_pick.F.kp D_pick.b .nil pass0 (pa_cons (pv 0) (pa_cons pe_str pa_nil))) pa_nil)))) (pss_one (ps_expr (pe_bm PySem.F.plainAttrs_list PySem.F.slot_list_append PySem.F.type_list_append mt_append (pv 3) (pa_cons (pe_call G_pick (hr.mono (by omega)) (by rfl) D_pick.g D_pick.F.kp D_pick.b .nil pass0 (pa_cons (pv 0) (pa_cons (pe_call0 G_signsoftexts (hr.mono (by omega)) (by rfl) D_signsoftexts.g D_signsoftexts.F.kp D_signsoftexts.b .nil pass0) pa_nil))) pa_nil))))))))))))
      (pss_one (ps_ret (pe_m1 PySem.F.slot_str_join PySem.F.type_str_join (mt_joinK (K := K)) pe_str (pv 3))))))), ?_⟩
    walk_at "st"
    refine ⟨a, c, 0, hi, rfl, S, h0, by omega, fun v H1 S1 b1 ⟨many, e, m0, m1⟩ => ?_⟩
    subst e
    walk_at "st"
    refine ⟨by decide, fun p np => ?_⟩
    have pa := S1.ne1 np
    have pc := S1.ne2 np
    walk_at "st"
    refine ⟨by omega, by omega, ?_⟩
    refine r_range (fun i σ H' => (∃ x y : Option V, σ = [some (.ref a), some (.int hi), some (.int many), some (.ref p), x, y]) ∧ StoreAt H' a c ∧ But a H1 H' ∧ ∃ ws : List Str, ws.length = i ∧ (∀ x ∈ ws, x.length = 1) ∧ H' p = some (.lst (ws.map V.str)))
      ⟨⟨_, _, rfl⟩, S1.new np, But.new np, [], rfl, by simp, upd_same⟩ ?_ ?_
    · rintro i σ H2 hi2 ⟨⟨x, y, rfl⟩, S2, b2, ws, hl, h1s, hp⟩ N k
      walk_at "st"
      refine ⟨a, c, _, rfl, S2, by decide, fun v H3 S3 b3 ⟨r, e, r0, r1⟩ => ?_⟩
      subst e
      have hp3 := b3 p _ pa hp
      have fin : ∀ (H4 : Hp) (z : Str) (x y : Option V), StoreAt H4 a c → But a H3 H4 → z.length = 1 → H4 p = some (.lst (ws.map V.str)) → N [some (.ref a), some (.int hi), some (.int many), some (.ref p), x, y] (L2.upd H4 p (.lst (ws.map V.str ++ [.str z]))) := fun H4 z x y S4 b4 hz hp4 =>
        k _ _ ⟨⟨_, _, rfl⟩, S4.put pa pc, ((b2.trans b3).trans b4).putNew np, ws ++ [z], by rw [List.length_append, hl]; rfl, fun x hx => by
            rcases List.mem_append.mp hx with hx | hx
            · exact h1s x hx
            · rw [List.mem_singleton.mp hx]; exact hz, by rw [upd_same, List.map_append]; rfl⟩
      have hsz : (ws.map V.str).length < sizeLine := size_ok (by rw [List.length_map]; omega)
      walk_at "rt"
      refine ite2 (fun _ => ⟨.inl ⟨rfl, _, sq_of hp3⟩, _, hp3, hsz, fin H3 _ _ _ S3 (But.refl _ _) (by decide +kernel) hp3⟩) (fun _ => ite2 (fun _ => ⟨.inl ⟨rfl, _, sq_of hp3⟩, _, hp3, hsz, fin H3 _ _ _ S3 (But.refl _ _) (by decide +kernel) hp3⟩) (fun _ => ite2 (fun _ => ⟨.inl ⟨rfl, _, sq_of hp3⟩, ?_⟩) (fun _ => ⟨.inl ⟨rfl, _, sq_of hp3⟩, ?_⟩)))
      · refine ⟨a, c, _, rfl, S3, by decide +kernel, by decide +kernel, fun v H4 S4 b4 ⟨k', _, e⟩ => ?_⟩
        subst e
        walk_at "rt"
        exact ⟨_, b4 p _ pa hp3, hsz, fin H4 _ _ _ S4 b4 rfl (b4 p _ pa hp3)⟩
      · refine ⟨rfl, fun z hz hzl => ?_⟩
        refine ⟨a, c, _, rfl, S3, hz, Nat.le_trans hzl (by decide), fun v H4 S4 b4 ⟨k', _, e⟩ => ?_⟩
        subst e
        walk_at "rt"
        exact ⟨_, b4 p _ pa hp3, hsz, fin H4 _ _ _ S4 b4 rfl (b4 p _ pa hp3)⟩
    · rintro σ H2 ⟨⟨x, y, rfl⟩, S2, b2, ws, hl, h1s, hp⟩
      have hj := join0_len tl_emp h1s
      walk_at "rt"
      refine ⟨ws, sq_of hp, ?_, q _ _ S2 (b1.trans b2) ⟨_, rfl, by omega⟩⟩
      have e : (Str.ofString "").length = 0 := by decide +kernel
      rw [e, sum_ones ws h1s]
      omega
end
end K01
namespace K01
open PySem PySem.Spec PyProof.Rows L2 TL HotExc L2H HotLc Tw WX
local macro_rules | `(tactic| walk_at "rd") => `(tactic| simp only [start1, tMakeS, rIndex, tMethP, tG1, rSetOfS, tDisp, tPairs, rSInK, tAug, ipI, wipe, isR, isBool, isInt, isStr, isLst, isTup, tAsg, gName, gSub, tVar, tC, tOp, tUn, tTest, tIfS, tRet, tRetN, tDrop, tB, tAnd, tOr, tNot, tAndV, tOrV, tNotV, tIf, tCB, tCons, tNil, tNext, tCall, tBM, tTup, tLst, rU, rInW, rNinW, Int.reduceNeg, tG, tG2, sP, tFldC, sFldC, tProp, tMeth, tMake, rOwnC, rLenO, rIsC, rNoT, tAddT, tSAddK, rSAddK, rSInK, rSet0K, rSet0T, rMinS, rMaxS, rSortedQ, rSortedT, rEqD, rNeD, rIxD, dcL_eq, dcZ_eq, lcO_eq, forE_eq, forT_eq, lcS_eq, ItX.rIterN, iOwn, List.append_nil, tDisp, tPairs, tCallS, tCallSD, tCallT, StX.tStar, tCallK, tCallKS, rTupOf, tDrop, rI0, rI, rEq, rNe, scal, forR_eq, forR2_eq, forS_eq, forL_eq, lcT_eq, lcRT_eq, lcS_eq, rLenX, rLenS, rListOf, tRevL, rMulS, rRepL, rCatL, rSumN, rMaxN, tBM0, rPop, tAug, ipI,  tPart, tNoPart, CwR.tReplC, rAllK, rInSg, rNinSg, sgn_inj, rAddS, rInSt, tChain, tM1, tM0, rSplitN, rJoinN, exists_eq, rIntI, rIntB, rIntS, rStrI, rAbs, rOrd, rMin, rMax, rIxL, rIxX, rSetL, rAppend, rIxS, rSlS, rSlL, tSl, List.map_cons, List.map_nil, List.replicate_succ, List.replicate_zero, List.length_cons, List.length_nil, Nat.reduceSub, Nat.reduceAdd, Nat.zero_add, Nat.sub_self, List.getElem?_cons_zero, List.getElem?_cons_succ, List.set_cons_zero, List.set_cons_succ, List.append_nil, List.nil_append, List.cons_append, Option.some.injEq, not_true_eq_false, reduceCtorEq, exists_eq_left', exists_eq_left, exists_eq', exists_and_left, exists_and_right, V.int.injEq, V.str.injEq, V.bl.injEq, V.ref.injEq, List.cons.injEq, and_true, true_and, and_assoc, decide_eq_true_eq, Bool.not_eq_true', decide_eq_false_iff_not, ite_true, ite_false, if_true, if_false, Bool.not_true, Bool.not_false, Bool.false_eq_true, eq_self_iff_true, reduceIte, ne_eq, Int.reduceEq, not_false_eq_true])
local macro_rules | `(tactic| walk_at "rt") => `(tactic| try walk_at "rd")
local macro_rules | `(tactic| walk_at "st") => `(tactic| (walk_at "rt"; refine r_seq ?_; walk_at "rt"))
local macro_rules | `(tactic| walk_at "hp") => `(tactic| first | assumption | exact upd_same | (rw [upd_ne (by assumption)]; walk_at "hp"))
local macro_rules | `(tactic| walk_at "ex1") => `(tactic| ((with_reducible refine Exists.intro ?w (And.intro ?hx ?_)); (case hx => first | exact sq_of (by walk_at "hp") | exact .inl (sq_of (by walk_at "hp")) | exact rfl | (show _ = some (HO.lst _); walk_at "hp"))))
local macro_rules | `(tactic| walk_at "ex") => `(tactic| repeat (first | walk_at "ex1" | walk_at "rd"))
abbrev s_law : Stmt := topS 83
theorem sc_law : FnScope ["script", "store", "both", "k", "web", "made", "signs", "told", "odds", "odd", "due", "one", "sign", "place", "ask"] ["script"] (defScope s_law) := ⟨rfl, rfl, rfl, by decide +kernel, rfl, by decide +kernel, by decide +kernel⟩
/-- a row of the law: a web, its signs, a board; all new since H0 -/
def RowB (CW CB : Addr) (H0 H : Hp) (t : Addr) : Prop := ∃ r b w sg Ps T, H t = some (.tup [.ref r, .str sg, .ref b]) ∧ LWF H0 H r Ps T ∧ Wok Ps T ∧ BdW CW CB H b w Ps T sg ∧ IsWebF CW H0 H w Ps T
section
variable {CW CB : Addr} {H0 H H' : Hp} {t a c p : Addr}
theorem RowB.keep (h : RowB CW CB H0 H t) (k : Keeps H H') : RowB CW CB H0 H' t := by
  obtain ⟨r, b, w, sg, Ps, T, h1, h2, h3, h4, h5⟩ := h
  exact ⟨r, b, w, sg, Ps, T, k _ _ h1, h2.keep k, h3, h4.keep k, h5.keep k⟩
theorem RowB.updL {o0 o : HO} {zs : List V} (h : RowB CW CB H0 H t) (hp0 : H0 p = some o0) (hp : H p = some (.lst zs)) : RowB CW CB H0 (L2.upd H p o) t := by
  obtain ⟨r, b, w, sg, Ps, T, h1, h2, h3, h4, h5⟩ := h
  have h5' := h5.updL (o := o) hp0 hp
  exact ⟨r, b, w, sg, Ps, T, (upd_ne (fun z => by rw [z, hp] at h1; cases h1)).trans h1, h2.updL hp0 hp, h3, h4.updL hp h5'.is, h5'⟩
theorem IsWebF.but {m : Addr} {Ps : List Str} {T : List (Str × Str)} (h : IsWebF CW H0 H m Ps T) (S : StoreAt H a c) (b : But a H H') : IsWebF CW H0 H' m Ps T := by
  obtain ⟨pl, tl, nd, dx, vs, W, g1, g2, g3, g4⟩ := h
  obtain ⟨kvn, e, hat, hk⟩ := id W.nr
  exact ⟨pl, tl, nd, dx, vs, ⟨b _ _ (S.nI W.ob) W.ob, b _ _ (S.nS W.pl_) W.pl_, b _ _ (S.nP W.tl_ W.pt) W.tl_, W.pt.but S b, W.nr.but b (fun p xs h => S.nS h) (fun p kvs h => S.nK h)⟩, g1, g2, g3, fun kvs' k l e' hv => g4 kvs' k l (by rw [b _ _ (S.nK e) e] at e'; rw [e]; exact e') hv⟩
theorem RowB.but (h : RowB CW CB H0 H t) (S : StoreAt H a c) (b : But a H H') : RowB CW CB H0 H' t := by
  obtain ⟨r, bb, w, sg, Ps, T, h1, h2, h3, ⟨d, dx, kvs, B⟩, h5⟩ := h
  have h5' := h5.but S b
  exact ⟨r, bb, w, sg, Ps, T, b _ _ (S.nT h1) h1, h2.but S b, h3, ⟨d, dx, kvs, b _ _ (S.nI B.ob) B.ob, h5'.is, b _ _ (S.nK B.tab) B.tab, B.val, B.dom, B.ok, B.sg⟩, h5'⟩
end
theorem BdW.but {CW CB : Addr} {H H' : Hp} {a c x w : Addr} {Ps : List Str} {T : List (Str × Str)} {sg : Str} (h : BdW CW CB H x w Ps T sg) (hw : IsWeb CW H' w Ps T) (S : StoreAt H a c) (b : But a H H') : BdW CW CB H' x w Ps T sg := by
  obtain ⟨d, dx, kvs, B⟩ := h
  exact ⟨d, dx, kvs, b _ _ (S.nI B.ob) B.ob, hw, b _ _ (S.nK B.tab) B.tab, B.val, B.dom, B.ok, B.sg⟩
/-- what stands while a row is made -/
structure Mid (CW CB : Addr) (H0 H : Hp) (bo rw m b r : Addr) (ts : List Addr) (sg : Str) (Ps : List Str) (T : List (Str × Str)) : Prop where
  web : LWF H0 H rw Ps T
  wb : IsWebF CW H0 H m Ps T
  bd : BdW CW CB H b m Ps T sg
  tup : H r = some (.tup [.non, .ref b])
  top : H bo = some (.lst (ts.map V.ref))
  row : ∀ t ∈ ts, RowB CW CB H0 H t
  old : ∀ p, H p = none → H0 p = none
section
variable {CW CB : Addr} {H0 H H' : Hp} {bo rw m b r a c : Addr} {ts : List Addr} {sg : Str} {Ps : List Str} {T : List (Str × Str)}
theorem Mid.keep (h : Mid CW CB H0 H bo rw m b r ts sg Ps T) (k : Keeps H H') : Mid CW CB H0 H' bo rw m b r ts sg Ps T := ⟨h.web.keep k, h.wb.keep k, h.bd.keep k, k _ _ h.tup, k _ _ h.top, fun t ht => (h.row t ht).keep k, fun p hp => h.old p (k.free hp)⟩
theorem Mid.but (h : Mid CW CB H0 H bo rw m b r ts sg Ps T) (n : bo ≠ a) (S : StoreAt H a c) (S' : StoreAt H' a c) (k : But a H H') : Mid CW CB H0 H' bo rw m b r ts sg Ps T := ⟨h.web.but S k, h.wb.but S k, h.bd.but (h.wb.but S k).is S k, k _ _ (S.nT h.tup) h.tup, k _ _ n h.top, fun t ht => (h.row t ht).but S k, fun p hp => h.old p (k.free S' hp)⟩
end
/-- a known row -/
structure RowX (CW CB : Addr) (H : Hp) (t r b : Addr) (sg : Str) (Ps : List Str) (T : List (Str × Str)) : Prop where
  tup : H t = some (.tup [.ref r, .str sg, .ref b])
  web : LW H r Ps T
  bd : IsBoard CW CB H b Ps T sg
section
variable {CW CB : Addr} {H H' : Hp} {t r b a c : Addr} {sg : Str} {Ps : List Str} {T : List (Str × Str)}
theorem RowX.keep (h : RowX CW CB H t r b sg Ps T) (k : Keeps H H') : RowX CW CB H' t r b sg Ps T := ⟨k _ _ h.tup, h.web.keep k, h.bd.keep k⟩
theorem RowX.but (h : RowX CW CB H t r b sg Ps T) (S : StoreAt H a c) (k : But a H H') : RowX CW CB H' t r b sg Ps T := ⟨k _ _ (S.nT h.tup) h.tup, h.web.but S k, h.bd.but S k⟩
end
def bads9 : List Str := [Str.ofString "", Str.ofString "dl", Str.ofString "x", Str.ofString "D", Str.ofString "d ", Str.ofString "dark", Str.ofString "..", Str.ofString "\n", Str.ofString "light"]
theorem bads9_no : bads9.all (fun x => decide (x ∉ signs3)) = true := by decide +kernel
/-- a pair of texts -/
def Ask (H : Hp) (v : V) : Prop := ∃ (t : Addr) (x y : Str), v = .ref t ∧ H t = some (.tup [.str x, .str y])
section
variable {P : Program} {w : World} {K : PySem.W.Frag} {mg : Str → Option Value} {base : Heap}
theorem ok_law {c_Web c_Board f f_store f_websized f_size f_signs f_toldboard f_badsigns f_text f_departs f_due f_like f_shows f_emptyboard f_odd f_pick f_oddgood f_putgood f_iWeb : Addr} {fd fd_store fd_websized fd_size fd_signs fd_toldboard fd_badsigns fd_text fd_departs fd_due fd_like fd_shows fd_emptyboard fd_odd fd_pick fd_oddgood fd_putgood fd_iWeb : FuncData} (B : Bi mg) (D : Dn K mg "law" s_law ["script"] f fd)
    (D_store : Dn K mg "_law_store" s_store ["script"] f_store fd_store) (G_store : FnOk P w K mg base CX0 1 f_store fd_store ["script"] (spStore K))
    (D_websized : Dn K mg "_law_web_sized" s_websized ["store", "many", "bound", "taken"] f_websized fd_websized) (G_websized : FnOk P w K mg base CX0 7 f_websized fd_websized ["store", "many", "bound", "taken"] spWebSized)
    (D_size : Dn K mg "_law_size" s_size ["store", "low", "high"] f_size fd_size) (G_size : FnOk P w K mg base CX0 3 f_size fd_size ["store", "low", "high"] spRange)
    (D_signs : Dn K mg "_law_signs" s_signs ["store", "web"] f_signs fd_signs) (G_signs : FnOk P w K mg base CX0 4 f_signs fd_signs ["store", "web"] spSigns)
    (D_toldboard : Dn K mg "_law_told_board" s_toldboard ["web", "signs"] f_toldboard fd_toldboard) (G_toldboard : FnOk P w K mg base CX0 9 f_toldboard fd_toldboard ["web", "signs"] (spToldB c_Web c_Board))
    (D_badsigns : Dn K mg "_law_bad_signs" s_badsigns ["store", "web"] f_badsigns fd_badsigns) (G_badsigns : FnOk P w K mg base CX0 5 f_badsigns fd_badsigns ["store", "web"] spBadSg)
    (D_text : Dn K mg "_law_text" s_text ["store", "high"] f_text fd_text) (G_text : FnOk P w K mg base CX0 4 f_text fd_text ["store", "high"] spText)
    (D_departs : Dn K mg "_law_departs" s_departs ["places", "signs"] f_departs fd_departs) (G_departs : FnOk P w K mg base CX0 1 f_departs fd_departs ["places", "signs"] spDep)
    (D_due : Dn K mg "_law_due" s_due ["kind", "values"] f_due fd_due) (G_due : FnOk P w K mg base CX0 1 f_due fd_due ["kind", "values"] spDue)
    (D_like : Dn K mg "_law_like" s_like ["one", "two"] f_like fd_like) (G_like : FnOk P w K mg base CX0 6 f_like fd_like ["one", "two"] (spLike 5))
    (D_shows : Dn K mg "_law_shows" s_shows ["board", "web", "signs"] f_shows fd_shows) (G_shows : FnOk P w K mg base CX0 10 f_shows fd_shows ["board", "web", "signs"] (spShw c_Web c_Board))
    (D_emptyboard : Dn K mg "empty_board" s_emptyboard ["web"] f_emptyboard fd_emptyboard) (G_emptyboard : FnOk P w K mg base CX0 8 f_emptyboard fd_emptyboard ["web"] (spEmp c_Web c_Board))
    (D_odd : Dn K mg "_law_odd" s_odd ["store", "places"] f_odd fd_odd) (G_odd : FnOk P w K mg base CX0 7 f_odd fd_odd ["store", "places"] spOdd)
    (D_pick : Dn K mg "_law_pick" s_pick ["store", "row"] f_pick fd_pick) (G_pick : FnOk P w K mg base CX0 3 f_pick fd_pick ["store", "row"] spPick) (G_pickL : FnOk P w K mg base CX0 3 f_pick fd_pick ["store", "row"] spPickL)
    (D_oddgood : Dn K mg "_law_odd_good" s_oddgood ["board", "place", "sign"] f_oddgood fd_oddgood) (G_oddgood : FnOk P w K mg base CX0 10 f_oddgood fd_oddgood ["board", "place", "sign"] (spOddG c_Web c_Board))
    (D_putgood : Dn K mg "_law_put_good" s_putgood ["board", "web", "signs", "place", "sign"] f_putgood fd_putgood) (G_putgood : FnOk P w K mg base CX0 11 f_putgood fd_putgood ["board", "web", "signs", "place", "sign"] (spPutG c_Web c_Board))
    (gc_Web : mg "Web" = some (.ref c_Web)) (MK_Web : Mk K c_Web f_iWeb) (G_iWeb : FnOk P w K mg base CX0 3 f_iWeb fd_iWeb ["self", "places", "ties"] (spInW c_Web)) (B_iWeb : Binds K fd_iWeb ["self", "places", "ties"] []) : FnOk P w K mg base CX0 12 f fd ["script"] (spLaw K) := by
  refine D.F.ok sc_law (fun vs H Q E h => ?_) (fun cdv A outer s H vs Q E hr h => ?_)
  · obtain ⟨a, ns, rfl, _⟩ := h
    rfl
  · obtain ⟨sa, ns, rfl, hs, hl, q⟩ := h
    refine ⟨_, (pss_cons (ps_set (i := 1) sc_law.nd rfl (.inl rfl) (pe_call G_store (hr.mono (by omega)) (by rfl) D_store.g D_store.F.kp D_store.b .nil pass0 (pa_cons (pv 0) pa_nil)))
      (pss_cons (ps_set (i := 2) sc_law.nd rfl (.inl rfl) (pe_lst pa_nil))
      (pss_cons (ps_for PassesOwn.never rfl (pi_range1 (by rfl) B.range (pa_cons pe_int pa_nil)) (pg_name (i := 3) sc_law.nd rfl (.inl rfl)) (pss_cons (ps_set (i := 4) sc_law.nd rfl (.inl rfl) (pe_call G_websized (hr.mono (by omega)) (by rfl) D_websized.g D_websized.F.kp D_websized.b .nil pass0 (pa_cons (pv 1) (pa_cons (pe_call G_size (hr.mono (by omega)) (by rfl) D_size.g D_size.F.kp D_size.b .nil pass0 (pa_cons (pv 1) (pa_cons pe_int (pa_cons pe_int pa_nil)))) (pa_cons pe_int (pa_cons (pe_lst pa_nil) pa_nil))))))
      (pss_cons (ps_set (i := 5) sc_law.nd rfl (.inl rfl) (pe_make MK_Web G_iWeb (hr.mono (by omega)) (by rfl) gc_Web B_iWeb .nil pass0 (pa_cons (pe_callTy (call_listK (K := K)) (by rfl) B.list_ (by decide +kernel) (pa_cons (pe_ix (ix_sxK (K := K)) (pv 4) pe_int (fun _ _ => rfl)) pa_nil)) (pa_cons (pe_callTy (call_listK (K := K)) (by rfl) B.list_ (by decide +kernel) (pa_cons (pe_ix (ix_sxK (K := K)) (pv 4) pe_int (fun _ _ => rfl)) pa_nil)) pa_nil))))
      (pss_cons (ps_set (i := 6) sc_law.nd rfl (.inl rfl) (pe_call G_signs (hr.mono (by omega)) (by rfl) D_signs.g D_signs.F.kp D_signs.b .nil pass0 (pa_cons (pv 1) (pa_cons (pv 4) pa_nil))))
      (pss_cons (ps_set (i := 7) sc_law.nd rfl (.inl rfl) (pe_call G_toldboard (hr.mono (by omega)) (by rfl) D_toldboard.g D_toldboard.F.kp D_toldboard.b .nil pass0 (pa_cons (pv 5) (pa_cons (pv 6) pa_nil))))
      (pss_cons (ps_if (pt_cmpR op_notN (pe_ix (ix_sxK (K := K)) (pv 7) pe_int (fun _ _ => rfl)) pe_non (nomark _)) (pss_one (ps_ret pe_bl)) pss_nil)
      (pss_cons (ps_set (i := 8) sc_law.nd rfl (.inl rfl) (pe_lst (pa_cons (pe_ix (ix_sxK (K := K)) (pe_call G_badsigns (hr.mono (by omega)) (by rfl) D_badsigns.g D_badsigns.F.kp D_badsigns.b .nil pass0 (pa_cons (pv 1) (pa_cons (pv 4) pa_nil))) pe_int (fun _ _ => rfl)) (pa_cons (pe_ix (ix_sxK (K := K)) (pe_call G_badsigns (hr.mono (by omega)) (by rfl) D_badsigns.g D_badsigns.F.kp D_badsigns.b .nil pass0 (pa_cons (pv 1) (pa_cons (pv 4) pa_nil))) pe_int (fun _ _ => rfl)) (pa_cons pe_str (pa_cons (pe_call G_text (hr.mono (by omega)) (by rfl) D_text.g D_text.F.kp D_text.b .nil pass0 (pa_cons (pv 1) (pa_cons pe_int pa_nil))) (pa_cons (pe_op op_addS (pv 6) pe_str) pa_nil)))))))
      (pss_cons (ps_for PassesOwn.never rfl (pi_listK (K := K) (pv 8)) (pg_name (i := 9) sc_law.nd rfl (.inl rfl)) (pss_one (ps_if (PW.pt (pw_or (pt_cmpR op_ne (pe_callB call_lenS (by rfl) B.len PySem.boot_len (pa_cons (pv 9) pa_nil)) (pe_callB call_lenS (by rfl) B.len PySem.boot_len (pa_cons (pv 6) pa_nil)) (nomark _)) (pw_or1 (pt_cmpR op_lt (pe_call G_departs (hr.mono (by omega)) (by rfl) D_departs.g D_departs.F.kp D_departs.b .nil pass0 (pa_cons (pe_ix (ix_sxK (K := K)) (pv 4) pe_int (fun _ _ => rfl)) (pa_cons (pv 9) pa_nil))) (pe_callB call_lenS (by rfl) B.len PySem.boot_len (pa_cons (pv 9) pa_nil)) (nomark _))))) (pss_cons (ps_set (i := 10) sc_law.nd rfl (.inl rfl) (pe_call G_due (hr.mono (by omega)) (by rfl) D_due.g D_due.F.kp D_due.b .nil pass0 (pa_cons pe_str (pa_cons (pe_tup (pa_cons (pe_call G_departs (hr.mono (by omega)) (by rfl) D_departs.g D_departs.F.kp D_departs.b .nil pass0 (pa_cons (pe_ix (ix_sxK (K := K)) (pv 4) pe_int (fun _ _ => rfl)) (pa_cons (pv 9) pa_nil))) pa_nil)) pa_nil))))
      (pss_one (ps_if (pt_not (pt_val (pe_call G_like (hr.mono (by omega)) (by rfl) D_like.g D_like.F.kp D_like.b .nil pass0 (pa_cons (pe_ix (ix_sxK (K := K)) (pe_call G_toldboard (hr.mono (by omega)) (by rfl) D_toldboard.g D_toldboard.F.kp D_toldboard.b .nil pass0 (pa_cons (pv 5) (pa_cons (pv 9) pa_nil))) pe_int (fun _ _ => rfl)) (pa_cons (pv 10) pa_nil))))) (pss_one (ps_ret pe_bl)) pss_nil))) pss_nil)))
      (pss_cons (ps_expr (pe_bm PySem.F.plainAttrs_list PySem.F.slot_list_append PySem.F.type_list_append mt_append (pv 2) (pa_cons (pe_tup (pa_cons (pv 4) (pa_cons (pv 6) (pa_cons (pe_ix (ix_sxK (K := K)) (pv 7) pe_int (fun _ _ => rfl)) pa_nil)))) pa_nil)))
      (pss_one (ps_if (pt_not (pt_val (pe_call G_shows (hr.mono (by omega)) (by rfl) D_shows.g D_shows.F.kp D_shows.b .nil pass0 (pa_cons (pe_call G_emptyboard (hr.mono (by omega)) (by rfl) D_emptyboard.g D_emptyboard.F.kp D_emptyboard.b .nil pass0 (pa_cons (pv 5) pa_nil)) (pa_cons (pv 4) (pa_cons (pe_op op_mulS pe_str (pe_callB call_lenS (by rfl) B.len PySem.boot_len (pa_cons (pv 6) pa_nil))) pa_nil)))))) (pss_one (ps_ret pe_bl)) pss_nil)))))))))))
      (pss_cons (ps_for PassesOwn.never rfl (pi_range1 (by rfl) B.range (pa_cons pe_int pa_nil)) (pg_name (i := 3) sc_law.nd rfl (.inl rfl)) (pss_cons (ps_set (i := 11) sc_law.nd rfl (.inl rfl) (pe_ix (ix_listK (K := K)) (pv 2) (pe_op op_modN (pv 3) pe_int) (fun _ _ => rfl)))
      (pss_cons (ps_set (i := 9) sc_law.nd rfl (.inl rfl) (pe_call G_odd (hr.mono (by omega)) (by rfl) D_odd.g D_odd.F.kp D_odd.b .nil pass0 (pa_cons (pv 1) (pa_cons (pe_ix (ix_sxK (K := K)) (pe_ix (ix_sxK (K := K)) (pv 11) pe_int (fun _ _ => rfl)) pe_int (fun _ _ => rfl)) pa_nil))))
      (pss_cons (ps_set (i := 12) sc_law.nd rfl (.inl rfl) (pe_call G_pickL (hr.mono (by omega)) (by rfl) D_pick.g D_pick.F.kp D_pick.b .nil pass0 (pa_cons (pv 1) (pa_cons (pe_lst (pa_cons pe_str (pa_cons pe_str (pa_cons pe_str (pa_cons pe_str (pa_cons pe_str (pa_cons pe_str (pa_cons pe_str (pa_cons pe_str (pa_cons pe_str pa_nil)))))))))) pa_nil))))
      (pss_cons (ps_set (i := 13) sc_law.nd rfl (.inl rfl) (pe_call G_pickL (hr.mono (by omega)) (by rfl) D_pick.g D_pick.F.kp D_pick.b .nil pass0 (pa_cons (pv 1) (pa_cons (pe_ix (ix_sxK (K := K)) (pe_ix (ix_sxK (K := K)) (pv 11) pe_int (fun _ _ => rfl)) pe_int (fun _ _ => rfl)) pa_nil))))
      (pss_cons (ps_if (PW.pt (pw_or (pt_not (pt_val (pe_call G_oddgood (hr.mono (by omega)) (by rfl) D_oddgood.g D_oddgood.F.kp D_oddgood.b .nil pass0 (pa_cons (pe_ix (ix_sxK (K := K)) (pv 11) pe_int (fun _ _ => rfl)) (pa_cons (pv 9) (pa_cons (pv 12) pa_nil)))))) (pw_or1 (pt_not (pt_val (pe_call G_shows (hr.mono (by omega)) (by rfl) D_shows.g D_shows.F.kp D_shows.b .nil pass0 (pa_cons (pe_ix (ix_sxK (K := K)) (pv 11) pe_int (fun _ _ => rfl)) (pa_cons (pe_ix (ix_sxK (K := K)) (pv 11) pe_int (fun _ _ => rfl)) (pa_cons (pe_ix (ix_sxK (K := K)) (pv 11) pe_int (fun _ _ => rfl)) pa_nil))))))))) (pss_one (ps_ret pe_bl)) pss_nil)
      (pss_one (ps_for PassesOwn.never rfl (pi_listK (K := K) (pe_lst (pa_cons (pe_tup (pa_cons (pv 13) (pa_cons (pe_ix ix_str pe_str (pe_op op_modN (pv 3) pe_int) (fun _ _ => rfl)) pa_nil))) (pa_cons (pe_tup (pa_cons (pv 13) (pa_cons (pe_call G_pick (hr.mono (by omega)) (by rfl) D_pick.g D_pick.F.kp D_pick.b .nil pass0 (pa_cons (pv 1) (pa_cons pe_str pa_nil))) pa_nil))) (pa_cons (pe_tup (pa_cons (pv 9) (pa_cons pe_str pa_nil))) (pa_cons (pe_tup (pa_cons (pv 13) (pa_cons (pv 12) pa_nil))) (pa_cons (pe_tup (pa_cons (pv 9) (pa_cons (pv 12) pa_nil))) pa_nil))))))) (pg_name (i := 14) sc_law.nd rfl (.inl rfl)) (pss_one (ps_if (pt_not (pt_val (pe_call G_putgood (hr.mono (by omega)) (by rfl) D_putgood.g D_putgood.F.kp D_putgood.b .nil pass0 (pa_cons (pe_ix (ix_sxK (K := K)) (pv 11) pe_int (fun _ _ => rfl)) (pa_cons (pe_ix (ix_sxK (K := K)) (pv 11) pe_int (fun _ _ => rfl)) (pa_cons (pe_ix (ix_sxK (K := K)) (pv 11) pe_int (fun _ _ => rfl)) (pa_cons (pe_ix (ix_sxK (K := K)) (pv 14) pe_int (fun _ _ => rfl)) (pa_cons (pe_ix (ix_sxK (K := K)) (pv 14) pe_int (fun _ _ => rfl)) pa_nil)))))))) (pss_one (ps_ret pe_bl)) pss_nil))))))))))
      (pss_one (ps_ret (pe_and (pe_call G_shows (hr.mono (by omega)) (by rfl) D_shows.g D_shows.F.kp D_shows.b .nil pass0 (pa_cons (pe_ix (ix_sxK (K := K)) (pe_ix (ix_listK (K := K)) (pv 2) pe_int (fun _ _ => rfl)) pe_int (fun _ _ => rfl)) (pa_cons (pe_ix (ix_sxK (K := K)) (pe_ix (ix_listK (K := K)) (pv 2) pe_int (fun _ _ => rfl)) pe_int (fun _ _ => rfl)) (pa_cons (pe_ix (ix_sxK (K := K)) (pe_ix (ix_listK (K := K)) (pv 2) pe_int (fun _ _ => rfl)) pe_int (fun _ _ => rfl)) pa_nil)))) (pe_one (pe_call G_shows (hr.mono (by omega)) (by rfl) D_shows.g D_shows.F.kp D_shows.b .nil pass0 (pa_cons (pe_ix (ix_sxK (K := K)) (pe_ix (ix_listK (K := K)) (pv 2) pe_int (fun _ _ => rfl)) pe_int (fun _ _ => rfl)) (pa_cons (pe_ix (ix_sxK (K := K)) (pe_ix (ix_listK (K := K)) (pv 2) pe_int (fun _ _ => rfl)) pe_int (fun _ _ => rfl)) (pa_cons (pe_ix (ix_sxK (K := K)) (pe_ix (ix_listK (K := K)) (pv 2) pe_int (fun _ _ => rfl)) pe_int (fun _ _ => rfl)) pa_nil)))))))))))), ?_⟩
    have sz : ∀ n, n ≤ 10 → n ≤ sizeLine := fun n h => by rw [PySem.sizeLine_eq]; omega
    walk_at "st"
    refine ⟨sa, ns, rfl, hs, hl, fun a c H1 same na S1 => ?_⟩
    walk_at "st"
    refine ⟨Nat.zero_le _, fun bo nbo => ?_⟩
    have hbo : L2.upd H1 bo (.lst []) bo = some (.lst []) := upd_same
    have S0 := Keeps.store S1 (Keeps.new (x := .lst []) nbo)
    have boa : bo ≠ a := S1.ne1 nbo
    have boc : bo ≠ c := S1.ne2 nbo
    generalize L2.upd H1 bo (.lst []) = H0 at *
    walk_at "st"
    refine ⟨by decide, by decide, ?_⟩
    refine r_range (fun i σ H' => (∃ x3 x4 x5 x6 x7 x8 x9 x10, σ = [some (.ref sa), some (.ref a), some (.ref bo), x3, x4, x5, x6, x7, x8, x9, x10, none, none, none, none]) ∧ StoreAt H' a c ∧ (∀ p, H' p = none → H0 p = none) ∧ ∃ ts : List Addr, H' bo = some (.lst (ts.map V.ref)) ∧ ts.length = i ∧ ∀ t ∈ ts, RowB c_Web c_Board H0 H' t)
      ⟨⟨_, _, _, _, _, _, _, _, rfl⟩, S0, fun p h => h, [], hbo, rfl, fun t h => (by cases h)⟩ ?_ ?_
    · rintro i σ H2 hi ⟨⟨x3, x4, x5, x6, x7, x8, x9, x10, rfl⟩, S2, old2, ts, hb2, tl2, hT2⟩ N kN
      have hi2 : i < 2 := hi
      walk_at "st"
      refine ⟨a, c, 1, 20, rfl, S2, by decide, by decide, fun v H3 S3 b3 ⟨many, e, m0, m1⟩ => ?_⟩
      subst e
      obtain ⟨n, rfl⟩ : ∃ n : Nat, many = (n : Int) := ⟨many.toNat, by omega⟩
      refine ⟨Nat.zero_le _, fun ep nep => ?_⟩
      refine ⟨a, c, ep, n, 60, [], rfl, S3.new nep, upd_same, by omega, by omega, by decide, by decide, by decide, fun rw_ Ps T H4 S4 b4 nrw hwF wok hlen _ => ?_⟩
      have F := wok.fit
      have h20 := F.p20
      have kep := Keeps.new (x := .lst []) nep
      have b34 : But a H3 H4 := (Keeps.but kep).trans b4
      have b24 := b3.trans b34
      have hw4 := hwF.of fun p hp => old2 p (b3.free S3 (kep.free hp))
      have old4 : ∀ p, H4 p = none → H0 p = none := fun p hp => old2 p (b24.free S4 hp)
      have hb4 := b24 _ _ boa hb2
      have hT4 : ∀ t ∈ ts, RowB c_Web c_Board H0 H4 t := fun t ht => (hT2 t ht).but S2 b24
      walk_at "st"
      obtain ⟨pa, ta, ⟨nv, hr0, _⟩, hpa, tvs, hta, htt⟩ := id hw4.is
      refine ⟨_, .inr (tup_at hr0), _, rfl, pa, rfl, _, .inl (sq_of hpa), fun l1 nl1 => ?_⟩
      have kl1 := Keeps.new (x := .lst (Ps.map V.str)) nl1
      refine ⟨_, .inr (tup_at (kl1 _ _ hr0)), _, rfl, ta, rfl, _, .inl (sq_of (kl1 _ _ hta)), fun l2 nl2 m1 d1 nm1 nd1 ne1 => ?_⟩
      have kl2 := Keeps.new (x := .lst tvs) nl2
      have hA : Args (L2.upd (L2.upd H4 l1 (.lst (Ps.map V.str))) l2 (.lst tvs)) l1 l2 Ps T := ⟨kl2 _ _ upd_same, tvs, upd_same, htt.keeps (kl1.trans kl2)⟩
      have k12 := kl1.trans kl2
      generalize L2.upd (L2.upd H4 l1 (.lst (Ps.map V.str))) l2 (.lst tvs) = H4' at *
      refine mk_webF nm1 nd1 ne1 hA F fun H5 k5' hm => ?_
      rw [wok.ps, wok.to, wok.ts] at hm
      have k5 := k12.trans k5'
      have hm5 : IsWebF c_Web H0 H5 m1 Ps T := hm.of fun p hp => old4 p (k12.free hp)
      have S5 := Keeps.store S4 k5
      have hw5 := hw4.keep k5
      have old5 : ∀ p, H5 p = none → H0 p = none := fun p hp => old4 p (k5.free hp)
      have hb5 := k5 _ _ hb4
      have hT5 : ∀ t ∈ ts, RowB c_Web c_Board H0 H5 t := fun t ht => (hT4 t ht).keep k5
      clear hm hA htt hta hpa hr0 nm1 nd1 ne1 hw4 hT4 hb4 old4 hwF hT2 hb2 old2 b24 b34 b4 b3 S3 S4 S2 nl1 nl2 kl1 kl2 k12 k5 k5' kep nep
      obtain ⟨pa, ta, ⟨nv, hr0, _⟩, hpa, _⟩ := id hw5.is
      walk_at "st"
      refine ⟨a, c, rw_, pa, _, _, _, rfl, S5, hr0, hpa, S5.nS hpa, by rw [List.length_map]; omega, fun v H6 S6 b6 ⟨l, e, hll, hls⟩ => ?_⟩
      subst e
      rw [List.length_map] at hll
      have sgo : SgOk Ps.length (S l) := ⟨by rw [tl_S]; omega, fun c hc => hls c (by rw [tl_S] at hc; exact hc)⟩
      generalize S l = sg at sgo ⊢
      have hw6 := hw5.but S5 b6
      have hm6 := hm5.but S5 b6
      have hT6 : ∀ t ∈ ts, RowB c_Web c_Board H0 H6 t := fun t ht => (hT5 t ht).but S5 b6
      have hb6 := b6 _ _ boa hb5
      have old6 : ∀ p, H6 p = none → H0 p = none := fun p hp => old5 p (b6.free S6 hp)
      have lsg := sgo.len
      walk_at "st"
      refine ⟨m1, sg, Ps, T, rfl, hm6.is, wok.self, by omega, fun _ r1 b1 H7 k7 hr1 hbd => ?_, fun g => absurd sgo g⟩
      walk_at "st"
      refine ⟨_, .inr (tup_at hr1), _, rfl, ?_⟩
      rw [if_neg (fun g => g rfl)]
      have M7 : Mid c_Web c_Board H0 H7 bo rw_ m1 b1 r1 ts sg Ps T := ⟨hw6.keep k7, hm6.keep k7, hbd, hr1, k7 _ _ hb6, fun t ht => (hT6 t ht).keep k7, fun p hp => old6 p (k7.free hp)⟩
      have S7 := Keeps.store S6 k7
      clear hbd hr1 hb6 hT6 old6 hw6 hm6 hpa hr0 hw5 hm5 hT5 hb5 old5 b6 S5 S6 k7
      walk_at "st"
      obtain ⟨pa, ta, ⟨nv, hr0, _⟩, hpa, _⟩ := id M7.web.is
      refine ⟨a, c, rw_, pa, _, _, _, rfl, S7, hr0, hpa, S7.nS hpa, by rw [List.length_map]; omega, fun t8 y8 n8 H8 S8 b8 ht8 hy8 => ⟨t8, rfl, _, .inr (tup_at ht8), _, rfl, ?_⟩⟩
      have M8 := M7.but boa S7 S8 b8
      obtain ⟨pa, ta, ⟨nv, hr0, _⟩, hpa, _⟩ := id M8.web.is
      refine ⟨a, c, rw_, pa, _, _, _, rfl, S8, hr0, hpa, S8.nS hpa, by rw [List.length_map]; omega, fun t9 y9 n9 H9 S9 b9 ht9 hy9 => ⟨t9, rfl, _, .inr (tup_at ht9), _, rfl, ?_⟩⟩
      have M9 := M8.but boa S8 S9 b9
      refine ⟨a, c, 20, rfl, S9, by decide, by decide, fun v H10 S10 b10 ⟨y10, e, hy10⟩ => ?_⟩
      subst e
      have M10 := M9.but boa S9 S10 b10
      have d1 : (Str.ofString ".").length = 1 := by decide +kernel
      have ll := len_tl sg
      refine ⟨line_of (by omega), sz _ (by decide), fun od nod => ?_⟩
      have kod := Keeps.new (x := .lst [V.str y8, V.str y9, V.str (Str.ofString ""), V.str y10, V.str (sg ++ Str.ofString ".")]) nod
      have hod : L2.upd H10 od (.lst [V.str y8, V.str y9, V.str (Str.ofString ""), V.str y10, V.str (sg ++ Str.ofString ".")]) od = some (.lst ([y8, y9, Str.ofString "", y10, sg ++ Str.ofString "."].map V.str)) := upd_same
      have hods : ∀ y ∈ [y8, y9, Str.ofString "", y10, sg ++ Str.ofString "."], (tl y).length ≤ 100 := by
        intro y hy
        simp only [List.mem_cons, List.not_mem_nil, or_false] at hy
        have ap := app_len sg (Str.ofString ".")
        have lt := len_tl (sg ++ Str.ofString ".")
        have l10 := len_tl y10
        rcases hy with rfl | rfl | rfl | rfl | rfl
        · exact hy8
        · exact hy9
        · decide +kernel
        · omega
        · omega
      have M11 := M10.keep kod
      have S11 := Keeps.store S10 kod
      generalize [y8, y9, Str.ofString "", y10, sg ++ Str.ofString "."] = ods at *
      generalize L2.upd H10 od (.lst [V.str y8, V.str y9, V.str (Str.ofString ""), V.str y10, V.str (sg ++ Str.ofString ".")]) = H11 at *
      clear M7 M8 M9 M10 S7 S8 S9 S10 b8 b9 b10 ht8 ht9 hr0 hpa kod nod
      walk_at "st"
      refine ⟨⟨_, sq_of hod⟩, ?_⟩
      refine r_list (ods.map V.str) (fun j σ H' => (∃ x9 x10, σ = [some (.ref sa), some (.ref a), some (.ref bo), some (.int (0 + (i : Int))), some (.ref rw_), some (.ref m1), some (.str sg), some (.ref r1), some (.ref od), x9, x10, none, none, none, none]) ∧ Keeps H11 H') ⟨⟨_, _, rfl⟩, Keeps.refl _⟩ (fun j σ H' _ h => sq_of (h.2 _ _ hod)) ?_ ?_
      · rintro j v σ H' hv ⟨⟨x9, x10, rfl⟩, k'⟩ N2 kN2
        obtain ⟨y, hy, rfl⟩ := get_map hv
        have yl := hods y (List.mem_of_getElem? hy)
        have ly := len_tl y
        have M' := M11.keep k'
        obtain ⟨pa, ta, ⟨nv, hr0, _⟩, hpa, _⟩ := id M'.web.is
        have w0 : SqL K H' rw_ [.ref pa, .ref ta, .ref nv] ∨ SqT K H' rw_ [.ref pa, .ref ta, .ref nv] := .inr (tup_at hr0)
        walk_at "rt"
        by_cases ok : SgOk Ps.length y
        · have ly2 := ok.len
          refine ⟨line_of (by omega), line_of (by omega), ?_⟩
          rw [if_neg (fun g => g (by omega))]
          walk_at "rt"
          refine ⟨_, w0, _, rfl, pa, _, y, rfl, hpa, by rw [List.length_map]; omega, by omega, fun d hd => ?_⟩
          rw [List.length_map] at hd
          have := hd.uniq (Dpt.of ok)
          walk_at "rt"
          refine ⟨line_of (by omega), ?_⟩
          rw [if_neg (by omega)]
          exact kN2 _ _ ⟨⟨_, _, rfl⟩, k'⟩
        · refine ⟨line_of (by omega), line_of (by omega), ite2 (fun hA => ?_) (fun hA => ?_)⟩
          rotate_left
          walk_at "rt"
          refine ⟨_, w0, _, rfl, pa, _, y, rfl, hpa, by rw [List.length_map]; omega, by omega, fun d hd => ?_⟩
          rw [List.length_map] at hd
          walk_at "rt"
          refine ⟨line_of (by omega), ?_⟩
          rw [if_pos (Classical.byContradiction fun g => ok (by
            have := hd.le
            have e : d = (tl y).length := by omega
            subst e
            exact hd.ok (by omega)))]
          clear hd
          all_goals
            walk_at "st"
            refine ⟨_, w0, _, rfl, pa, _, y, rfl, hpa, by rw [List.length_map]; omega, by omega, fun d hd => ?_⟩
            rw [List.length_map] at hd
            refine ⟨sz _ (by decide), fun p0 n0 => ⟨_, p0, [.int d], [.int d], rfl, upd_same, atl_one rfl, Nat.le_of_ble_eq_true rfl, fun r2 H2 k2 a2 => ?_⟩⟩
            have g0 := (Keeps.new n0).trans k2
            refine ⟨m1, y, Ps, T, rfl, M'.wb.is.keep g0, wok.self, by omega, fun g => absurd g ok, fun _ d' hd' r3 t3 H3 k3 hr3 a3 => ?_⟩
            obtain rfl := hd.uniq hd'
            have dp := dep_rais (Str.ofString "BadSigns") (.int d) rfl
            refine ⟨r3, rfl, _, .inr (tup_at hr3), _, rfl, _, _, All, All, _, rfl, a3, At.keepA a2 k3, Nat.le_trans dp (by decide), fun H8 k8 => ⟨true, rfl, ?_⟩⟩
            rw [if_neg (by decide)]
            exact kN2 _ _ ⟨⟨_, _, rfl⟩, ((k'.trans g0).trans k3).trans k8⟩
      rintro σ H12 ⟨⟨x9', x10', rfl⟩, k12⟩
      have M12 := M11.keep k12
      have S12 := Keeps.store S11 k12
      walk_at "st"
      refine ⟨.inl ⟨rfl, _, sq_of M12.top⟩, _, .inr (tup_at M12.tup), _, rfl, sz _ (by decide), fun p np => ?_⟩
      have kp := Keeps.new (x := .tup [V.ref rw_, V.str sg, V.ref b1]) np
      have M13 := M12.keep kp
      have S13 := Keeps.store S12 kp
      have hp : L2.upd H12 p (.tup [V.ref rw_, V.str sg, V.ref b1]) p = some (.tup [V.ref rw_, V.str sg, V.ref b1]) := upd_same
      generalize L2.upd H12 p (.tup [V.ref rw_, V.str sg, V.ref b1]) = H13 at *
      have top13 := M13.top
      refine ⟨_, top13, size_ok (by rw [List.length_map]; omega), ?_⟩
      have rows : ∀ t ∈ ts ++ [p], RowB c_Web c_Board H0 (L2.upd H13 bo (.lst (ts.map V.ref ++ [V.ref p]))) t := fun t ht => by
        refine RowB.updL ?_ hbo top13
        rcases List.mem_append.mp ht with ht | ht
        · exact M13.row t ht
        · rw [List.mem_singleton.mp ht]
          exact ⟨rw_, b1, m1, sg, Ps, T, hp, M13.web, wok, M13.bd, M13.wb⟩
      have S14 : StoreAt (L2.upd H13 bo (.lst (ts.map V.ref ++ [V.ref p]))) a c := S13.put boa boc
      have w14 := M13.web.updL (o := .lst (ts.map V.ref ++ [V.ref p])) hbo top13
      have m14 := M13.wb.updL (o := .lst (ts.map V.ref ++ [V.ref p])) hbo top13
      have old14 : ∀ q, L2.upd H13 bo (.lst (ts.map V.ref ++ [V.ref p])) q = none → H0 q = none := fun q hq => by
        have qb : q ≠ bo := fun z => by rw [z, upd_same] at hq; cases hq
        rw [upd_ne qb] at hq
        exact M13.old q hq
      have top14 : L2.upd H13 bo (.lst (ts.map V.ref ++ [V.ref p])) bo = some (.lst ((ts ++ [p]).map V.ref)) := by rw [upd_same, List.map_append]; rfl
      generalize L2.upd H13 bo (.lst (ts.map V.ref ++ [V.ref p])) = H14 at *
      refine ⟨m1, Ps, T, rfl, m14.is, wok.self, fun mb H15 k15 hmb => ?_⟩
      have e1 : Txt.mul (Str.ofString ".") (sg.length : Int) = S (List.replicate Ps.length 46) := by rw [show Str.ofString "." = S [46] from tl_inj (by decide +kernel), mul_one, ll, lsg]
      refine ⟨line_of (by omega), 1, by decide +kernel, sg.length, Int.le_refl _, by omega, by omega, by omega, ?_⟩
      rw [e1]
      refine ⟨mb, rw_, Ps, T, _, rfl, hmb, (w14.keep k15).is, wok, fun H16 k16 => ⟨true, rfl, ?_⟩⟩
      rw [if_neg (by decide)]
      have k := k15.trans k16
      exact kN _ _ ⟨⟨_, _, _, _, _, _, _, _, rfl⟩, Keeps.store S14 k, fun q hq => old14 q (k.free hq), ts ++ [p], k _ _ top14, by rw [List.length_append, tl2]; rfl, fun t ht => (rows t ht).keep k⟩
    rintro σ H2 ⟨⟨x3, x4, x5, x6, x7, x8, x9, x10, rfl⟩, S2, old2, ts, hb2, tl2, hT2⟩
    walk_at "st"
    refine ⟨by decide, by decide, ?_⟩
    refine r_range (fun i σ H' => (∃ x3 x4 x5 x6 x7 x8 x9 x10 x11 x12 x13 x14, σ = [some (.ref sa), some (.ref a), some (.ref bo), x3, x4, x5, x6, x7, x8, x9, x10, x11, x12, x13, x14]) ∧ StoreAt H' a c ∧ But a H2 H') ⟨⟨_, _, _, _, _, _, _, _, _, _, _, _, rfl⟩, S2, But.refl _ _⟩ ?_ ?_
    · rintro i σ H3 hi ⟨⟨x3, x4, x5, x6, x7, x8, x9, x10, x11, x12, x13, x14, rfl⟩, S3, b3⟩ N kN
      have hi4 : i < 4 := hi
      walk_at "st"
      obtain ⟨t, ht⟩ : ∃ t, ts[i % 2]? = some t := ⟨_, List.getElem?_eq_getElem (by omega)⟩
      have htm := List.mem_of_getElem? ht
      have row3 := (hT2 t htm).but S2 b3
      have top3 := b3 _ _ boa hb2
      have ax : atI (ts.map V.ref) ((0 + (i : Int)).fmod 2) = some (.ref t) := by
        have : (0 + (i : Int)).fmod 2 = ((i % 2 : Nat) : Int) := by rw [Int.fmod_eq_emod_of_nonneg _ (by decide)]; omega
        rw [this]
        exact atI_nat (by rw [List.getElem?_map, ht]; rfl)
      refine ⟨_, sq_of top3, _, ax, ?_⟩
      have cc : ∃ c3, atI (Str.ofString ".dl").cps.toList ((0 + (i : Int)).fmod 3) = some c3 := by
        have : (0 + (i : Int)).fmod 3 = ((i % 3 : Nat) : Int) := by rw [Int.fmod_eq_emod_of_nonneg _ (by decide)]; omega
        rw [this, show (Str.ofString ".dl").cps.toList = [46, 100, 108] from by decide +kernel]
        exact ⟨_, atI_nat (List.getElem?_eq_getElem (by show i % 3 < 3; omega))⟩
      obtain ⟨c3, hc3⟩ := cc
      walk_at "st"
      obtain ⟨r, b, wb, sg, Ps, T, hto, hwF, wok, hbd, hwb⟩ := row3
      have F := wok.fit
      have h20 := F.p20
      obtain ⟨pa, ta, ⟨nv, hr0, _⟩, hpa, _⟩ := id hwF.is
      refine ⟨_, .inr (tup_at hto), _, rfl, r, rfl, _, .inr (tup_at hr0), _, rfl, a, c, pa, Ps, rfl, S3, hpa, F.ne, by omega, fun z hz => F.nam z hz, fun v H4 S4 b4 ⟨od, e, hod, hodl, _⟩ => ?_⟩
      subst e
      have X4 : RowX c_Web c_Board H4 t r b sg Ps T := RowX.but ⟨hto, hwF.is, hbd.is⟩ S3 b4
      have b24 := b3.trans b4
      clear hto hwF hbd hwb hr0 hpa top3
      walk_at "st"
      refine ⟨Nat.le_of_ble_eq_true rfl, fun p9 n9 => ?_⟩
      have k9 := Keeps.new (x := .lst (bads9.map V.str)) n9
      have S4' := S4.new (o := .lst (bads9.map V.str)) n9
      refine ⟨a, c, p9, bads9.map V.str, rfl, S4', upd_same, S4.ne1 n9, by simp [bads9], by simp [bads9], fun v H5 S5 b5 hv => ?_⟩
      obtain ⟨sn, hsn, rfl⟩ := List.mem_map.mp hv
      have snb : sn ∉ signs3 := of_decide_eq_true (List.all_eq_true.mp bads9_no sn hsn)
      have X5 := (X4.keep k9).but S4' b5
      have b25 := (b24.trans (Keeps.but k9)).trans b5
      obtain ⟨pa, ta, ⟨nv, hr0, _⟩, hpa, _⟩ := id X5.web
      walk_at "st"
      refine ⟨_, .inr (tup_at X5.tup), _, rfl, r, rfl, _, .inr (tup_at hr0), _, rfl, a, c, pa, _, rfl, S5, hpa, S5.nS hpa, fun e => F.ne (List.map_eq_nil_iff.mp e), by rw [List.length_map]; omega, fun v H6 S6 b6 hv6 => ?_⟩
      obtain ⟨pl, hpl, rfl⟩ := List.mem_map.mp hv6
      have X6 := X5.but S5 b6
      have b26 := b25.trans b6
      clear X4 X5 hr0 hpa b24 b25 b4 b5 b6 k9 n9 S4 S4' S5 hsn hv hv6
      walk_at "st"
      have sz2 : 2 ≤ sizeLine := sz _ (by decide)
      refine ⟨_, .inr (tup_at X6.tup), _, rfl, b, od, sn, Ps, T, sg, rfl, X6.bd, hod, snb, fun H7 k7 => ⟨true, rfl, ?_⟩⟩
      rw [if_neg (by decide)]
      have X7 := X6.keep k7
      refine ⟨_, .inr (tup_at X7.tup), _, rfl, _, .inr (tup_at X7.tup), _, rfl, _, .inr (tup_at X7.tup), _, rfl, b, r, Ps, T, sg, rfl, X7.bd, X7.web, wok, fun H8 k8 => ⟨true, rfl, ?_⟩⟩
      rw [if_neg (by decide)]
      have k68 := k7.trans k8
      have X8 := X7.keep k8
      have S8 := Keeps.store S6 k68
      refine ⟨Nat.le_of_ble_eq_true rfl, c3, hc3, sz2, fun q1 n1 => ?_⟩
      have g1 := Keeps.new (x := .tup [V.str pl, V.str { cps := #[c3] }]) n1
      have S8' := S8.new (o := .tup [V.str pl, V.str { cps := #[c3] }]) n1
      have q1a := S8.ne1 n1
      refine ⟨a, c, _, rfl, S8', by decide +kernel, by decide +kernel, fun v H9 S9 b9 ⟨c9, _, e⟩ => ?_⟩
      subst e
      have hq1 := b9 _ _ q1a (upd_same (o := .tup [V.str pl, V.str { cps := #[c3] }]) (H := H8) (a := q1))
      have X9 := (X8.keep g1).but S8' b9
      have b29 := (b26.trans (Keeps.but (k68.trans g1))).trans b9
      refine ⟨sz2, fun q2 n2 => ⟨sz2, fun q3 n3 => ⟨sz2, fun q4 n4 => ⟨sz2, fun q5 n5 => ⟨sz _ (by decide), fun al nal => ?_⟩⟩⟩⟩⟩
      have e2 := Keeps.new (x := .tup [V.str pl, V.str { cps := #[c9] }]) n2
      have e3 := Keeps.new (x := .tup [V.str od, V.str (Str.ofString "d")]) n3
      have e4 := Keeps.new (x := .tup [V.str pl, V.str sn]) n4
      have e5 := Keeps.new (x := .tup [V.str od, V.str sn]) n5
      have e6 := Keeps.new (x := .lst [V.ref q1, V.ref q2, V.ref q3, V.ref q4, V.ref q5]) nal
      have k9 := (((e2.trans e3).trans e4).trans e5).trans e6
      have hA : ∀ v ∈ ([.ref q1, .ref q2, .ref q3, .ref q4, .ref q5] : List V), Ask (L2.upd (L2.upd (L2.upd (L2.upd (L2.upd H9 q2 (.tup [V.str pl, V.str { cps := #[c9] }])) q3 (.tup [V.str od, V.str (Str.ofString "d")])) q4 (.tup [V.str pl, V.str sn])) q5 (.tup [V.str od, V.str sn])) al (.lst [V.ref q1, V.ref q2, V.ref q3, V.ref q4, V.ref q5])) v := fun v hv => by
        simp only [List.mem_cons, List.not_mem_nil, or_false] at hv
        rcases hv with rfl | rfl | rfl | rfl | rfl
        · exact ⟨_, _, _, rfl, k9 _ _ hq1⟩
        · exact ⟨_, _, _, rfl, (((e3.trans e4).trans e5).trans e6) _ _ upd_same⟩
        · exact ⟨_, _, _, rfl, ((e4.trans e5).trans e6) _ _ upd_same⟩
        · exact ⟨_, _, _, rfl, (e5.trans e6) _ _ upd_same⟩
        · exact ⟨_, _, _, rfl, e6 _ _ upd_same⟩
      have hal : L2.upd (L2.upd (L2.upd (L2.upd (L2.upd H9 q2 (.tup [V.str pl, V.str { cps := #[c9] }])) q3 (.tup [V.str od, V.str (Str.ofString "d")])) q4 (.tup [V.str pl, V.str sn])) q5 (.tup [V.str od, V.str sn])) al (.lst [V.ref q1, V.ref q2, V.ref q3, V.ref q4, V.ref q5]) al = some (.lst [.ref q1, .ref q2, .ref q3, .ref q4, .ref q5]) := upd_same
      have X10 := X9.keep k9
      have S10 := Keeps.store S9 k9
      have b210 := b29.trans (Keeps.but k9)
      generalize L2.upd (L2.upd (L2.upd (L2.upd (L2.upd H9 q2 (.tup [V.str pl, V.str { cps := #[c9] }])) q3 (.tup [V.str od, V.str (Str.ofString "d")])) q4 (.tup [V.str pl, V.str sn])) q5 (.tup [V.str od, V.str sn])) al (.lst [V.ref q1, V.ref q2, V.ref q3, V.ref q4, V.ref q5]) = H10 at *
      refine ⟨⟨_, sq_of hal⟩, ?_⟩
      refine r_list ([.ref q1, .ref q2, .ref q3, .ref q4, .ref q5] : List V) (fun j σ H' => (∃ y14, σ = [some (.ref sa), some (.ref a), some (.ref bo), some (.int (0 + (i : Int))), x4, x5, x6, x7, x8, some (.str od), x10, some (.ref t), some (.str sn), some (.str pl), y14]) ∧ Keeps H10 H') ⟨⟨_, rfl⟩, Keeps.refl _⟩ (fun j σ H' _ h => sq_of (h.2 _ _ hal)) ?_ ?_
      · rintro j v σ H' hv ⟨⟨y14, rfl⟩, k'⟩ N2 kN2
        obtain ⟨qt, y1, y2, rfl, hqt⟩ := hA v (List.mem_of_getElem? hv)
        have X' := X10.keep k'
        have hq' := k' _ _ hqt
        walk_at "rt"
        refine ⟨_, .inr (tup_at X'.tup), _, rfl, _, .inr (tup_at X'.tup), _, rfl, _, .inr (tup_at X'.tup), _, rfl, _, .inr (tup_at hq'), _, rfl, _, .inr (tup_at hq'), _, rfl, b, r, y1, y2, Ps, T, sg, rfl, X'.bd, X'.web, wok, fun H8 k8 => ⟨true, rfl, ?_⟩⟩
        rw [if_neg (by decide)]
        exact kN2 _ _ ⟨⟨_, rfl⟩, k'.trans k8⟩
      rintro σ H11 ⟨⟨y14, rfl⟩, k11⟩
      exact kN _ _ ⟨⟨_, _, _, _, _, _, _, _, _, _, _, _, rfl⟩, Keeps.store S10 k11, b210.trans (Keeps.but k11)⟩
    rintro σ H3 ⟨⟨x3, x4, x5, x6, x7, x8, x9, x10, x11, x12, x13, x14, rfl⟩, S3, b3⟩
    have top3 := b3 _ _ boa hb2
    have tl2 : ts.length = 2 := tl2
    obtain ⟨t0, t1, rfl⟩ : ∃ t0 t1, ts = [t0, t1] := by
      match ts, tl2 with
      | [t0, t1], _ => exact ⟨_, _, rfl⟩
    obtain ⟨r, b, wb, sg, Ps, T, hto, hwF, wok, hbd, _⟩ := (hT2 t0 (by simp)).but S2 b3
    obtain ⟨r', b', wb', sg', Ps', T', hto', hwF', wok', hbd', _⟩ := (hT2 t1 (by simp)).but S2 b3
    walk_at "rt"
    refine ⟨_, sq_of top3, _, rfl, t0, rfl, _, .inr (tup_at hto), _, rfl, _, sq_of top3, _, rfl, t0, rfl, _, .inr (tup_at hto), _, rfl, _, sq_of top3, _, rfl, t0, rfl, _, .inr (tup_at hto), _, rfl, b, r, Ps, T, sg, rfl, hbd.is, hwF.is, wok, fun H4 k4 => ⟨true, rfl, ?_⟩⟩
    rw [if_pos rfl]
    have top4 := k4 _ _ top3
    have ht4 := k4 _ _ hto'
    refine ⟨_, sq_of top4, _, rfl, t1, rfl, _, .inr (tup_at ht4), _, rfl, _, sq_of top4, _, rfl, t1, rfl, _, .inr (tup_at ht4), _, rfl, _, sq_of top4, _, rfl, t1, rfl, _, .inr (tup_at ht4), _, rfl, b', r', Ps', T', sg', rfl, hbd'.is.keep k4, hwF'.is.keep k4, wok', fun H5 k5 => q H5⟩
end
end K01
namespace K01
open PySem PySem.Spec PyProof.Rows L2 TL HotExc L2H HotLc Tw WX
local macro_rules | `(tactic| walk_at "rd") => `(tactic| simp only [start1, tMakeS, rIndex, tMethP, tG1, rSetOfS, tDisp, tPairs, rSInK, tAug, ipI, wipe, isR, isBool, isInt, isStr, isLst, isTup, tAsg, gName, gSub, tVar, tC, tOp, tUn, tTest, tIfS, tRet, tRetN, tDrop, tB, tAnd, tOr, tNot, tAndV, tOrV, tNotV, tIf, tCB, tCons, tNil, tNext, tCall, tBM, tTup, tLst, rU, rInW, rNinW, Int.reduceNeg, tG, tG2, sP, tFldC, sFldC, tProp, tMeth, tMake, rOwnC, rLenO, rIsC, rNoT, tAddT, tSAddK, rSAddK, rSInK, rSet0K, rSet0T, rMinS, rMaxS, rSortedQ, rSortedT, rEqD, rNeD, rIxD, dcL_eq, dcZ_eq, lcO_eq, forE_eq, forT_eq, lcS_eq, ItX.rIterN, iOwn, List.append_nil, tDisp, tPairs, tCallS, tCallSD, tCallT, StX.tStar, tCallK, tCallKS, rTupOf, tDrop, rI0, rI, rEq, rNe, scal, forR_eq, forR2_eq, forS_eq, forL_eq, lcT_eq, lcRT_eq, lcS_eq, rLenX, rLenS, rListOf, tRevL, rMulS, rRepL, rCatL, rSumN, rMaxN, tBM0, rPop, tAug, ipI,  tPart, tNoPart, CwR.tReplC, rAllK, rInSg, rNinSg, sgn_inj, rAddS, rInSt, tChain, tM1, tM0, rSplitN, rJoinN, exists_eq, rIntI, rIntB, rIntS, rStrI, rAbs, rOrd, rMin, rMax, rIxL, rIxX, rSetL, rAppend, rIxS, rSlS, rSlL, tSl, List.map_cons, List.map_nil, List.replicate_succ, List.replicate_zero, List.length_cons, List.length_nil, Nat.reduceSub, Nat.reduceAdd, Nat.zero_add, Nat.sub_self, List.getElem?_cons_zero, List.getElem?_cons_succ, List.set_cons_zero, List.set_cons_succ, List.append_nil, List.nil_append, List.cons_append, Option.some.injEq, not_true_eq_false, reduceCtorEq, exists_eq_left', exists_eq_left, exists_eq', exists_and_left, exists_and_right, V.int.injEq, V.str.injEq, V.bl.injEq, V.ref.injEq, List.cons.injEq, and_true, true_and, and_assoc, decide_eq_true_eq, Bool.not_eq_true', decide_eq_false_iff_not, ite_true, ite_false, if_true, if_false, Bool.not_true, Bool.not_false, Bool.false_eq_true, eq_self_iff_true, reduceIte, ne_eq, Int.reduceEq, not_false_eq_true])
local macro_rules | `(tactic| walk_at "rt") => `(tactic| try walk_at "rd")
local macro_rules | `(tactic| walk_at "st") => `(tactic| (walk_at "rt"; refine r_seq ?_; walk_at "rt"))
local macro_rules | `(tactic| walk_at "hp") => `(tactic| first | assumption | exact upd_same | (rw [upd_ne (by assumption)]; walk_at "hp"))
local macro_rules | `(tactic| walk_at "ex1") => `(tactic| ((with_reducible refine Exists.intro ?w (And.intro ?hx ?_)); (case hx => first | exact sq_of (by walk_at "hp") | exact .inl (sq_of (by walk_at "hp")) | exact rfl | (show _ = some (HO.lst _); walk_at "hp"))))
local macro_rules | `(tactic| walk_at "ex") => `(tactic| repeat (first | walk_at "ex1" | walk_at "rd"))
abbrev s_iBadSigns : Stmt := clsS 11 0
theorem sc_iBadSigns : FnScope ["self", "at"] ["self", "at"] (defScope s_iBadSigns) := ⟨rfl, rfl, rfl, by decide +kernel, rfl, by decide +kernel, by decide +kernel⟩
section
variable {P : Program} {w : World} {K : PySem.W.Frag} {mg : Str → Option Value} {base : Heap}
theorem ok_iBadSigns {C f : Addr} {fd : FuncData} (T : OexC K C) (no : PySem.W.findIn K (.ref C) "at" = some none) (F : Fun K "__init__" "BadSigns.__init__" s_iBadSigns f fd) : FnOk P w K mg base CX0 1 f fd ["self", "at"] (spIni1 C "at") := by
  refine F.ok sc_iBadSigns (fun vs H Q E h => ?_) (fun cdv A outer s H vs Q E hr h => ?_)
  · obtain ⟨a, y, rfl, _⟩ := h
    rfl
  · obtain ⟨a, y, rfl, ha, q⟩ := h
    exact ⟨_, (pss_one (ps_ost (pv 0) (pv 1))), _, rfl, _, rfl, a, C, rfl, T, no, .inl ⟨ha, fun dx n ne => q dx n ne⟩⟩
theorem writ_of {a : Addr} {es : Array DictEntry} {n : Nat} (D : KDict K w a es n) (h : (!(a == sysModules)) = true) : Writ K w a := ⟨es, n, D.at_, D.lit, by simpa using h⟩
theorem says_kd {a : Addr} {x : Str} {v : V} (h : KDct K w a x v) : Says K a x v := let ⟨_, _, u, _, _, h1, h2⟩ := h; ⟨_, h1, .inl ⟨u, rfl, h2⟩⟩
theorem says_hands {a : Addr} (h1 : KDct K w a (Str.ofString "d") (.str (Str.ofString "dark"))) (h2 : KDct K w a (Str.ofString "l") (.str (Str.ofString "light"))) (h0 : PySem.W.nsIn K a (Str.ofString ".") = some none) : ∀ c, sgn c → Says K a ⟨#[c]⟩ (hndV c) := by
  intro c hc
  rcases hc with rfl | rfl | rfl
  · rw [show (⟨#[46]⟩ : Str) = Str.ofString "." from by decide +kernel]
    exact ⟨none, h0, .inr ⟨rfl, rfl⟩⟩
  · rw [show (⟨#[100]⟩ : Str) = Str.ofString "d" from by decide +kernel]
    exact says_kd h1
  · rw [show (⟨#[108]⟩ : Str) = Str.ofString "l" from by decide +kernel]
    exact says_kd h2
end
end K01
namespace K01
open PySem PySem.Spec PyProof.Rows L2 TL HotExc L2H HotLc Tw WX
set_option maxHeartbeats 8000000 in
theorem all_mk {l : PySem.W.OpenLaw} {w : World} {K : PySem.W.Frag} {h base : Heap} {mg : Str → Option Value} (X : K.In h) (G : h.Ns mainGlobals mg) (c : HX.SaysY faL fnL prL tsL w K) : ∃ fd : FuncData, (∀ (s : Shared) (v : Value), BindsTo s fd ⟨[v], []⟩ [("script", v)]) ∧ mg "law" = some (.ref (He.ga K "law")) ∧ ∀ base : Heap, FnOk l.prog w K mg base CX0 12 (He.ga K "law") fd ["script"] (spLaw K) := by
  obtain ⟨fd, FD⟩ := c.x.def_ 41 (d := dd_41) rfl
  have FL : Fun K "law" "law" s_law (He.ga K "law") fd := HX.fun_of FD
  refine ⟨fd, fun s v => ?_, HX.g_glo X G (c.x.fact 41 (f := HX.fF (.glo "law")) rfl), fun base => ?_⟩
  · have b := FL.binds (ps := ["script"]) fun _ _ _ _ _ _ us hl => match us, hl with | [_], _ => rfl
    obtain ⟨oc, od, kV, doc, pm, an, cdv, ct, osl, rfl, _⟩ := FL.ex
    exact .of_eq rfl
  obtain ⟨fd_handof, FD_handof⟩ := c.x.def_ 0 (d := dd_0) rfl
  have F_handof : Fun K "hand_of" "hand_of" s_handof (He.ga K "hand_of") fd_handof := HX.fun_of FD_handof
  have D_handof : Dn K mg "hand_of" s_handof ["sign"] (He.ga K "hand_of") fd_handof := ⟨F_handof, HX.g_glo X G (c.x.fact 0 (f := HX.fF (.glo "hand_of")) rfl), F_handof.binds (ps := ["sign"]) fun _ _ _ _ _ _ us hl => match us, hl with | [_], _ => rfl⟩
  obtain ⟨fd_isname, FD_isname⟩ := c.x.def_ 1 (d := dd_1) rfl
  have F_isname : Fun K "is_name" "is_name" s_isname (He.ga K "is_name") fd_isname := HX.fun_of FD_isname
  have D_isname : Dn K mg "is_name" s_isname ["text"] (He.ga K "is_name") fd_isname := ⟨F_isname, HX.g_glo X G (c.x.fact 1 (f := HX.fF (.glo "is_name")) rfl), F_isname.binds (ps := ["text"]) fun _ _ _ _ _ _ us hl => match us, hl with | [_], _ => rfl⟩
  obtain ⟨fd_orderedpair, FD_orderedpair⟩ := c.x.def_ 2 (d := dd_2) rfl
  have F_orderedpair : Fun K "ordered_pair" "ordered_pair" s_orderedpair (He.ga K "ordered_pair") fd_orderedpair := HX.fun_of FD_orderedpair
  have D_orderedpair : Dn K mg "ordered_pair" s_orderedpair ["one", "two"] (He.ga K "ordered_pair") fd_orderedpair := ⟨F_orderedpair, HX.g_glo X G (c.x.fact 2 (f := HX.fF (.glo "ordered_pair")) rfl), F_orderedpair.binds (ps := ["one", "two"]) fun _ _ _ _ _ _ us hl => match us, hl with | [_, _], _ => rfl⟩
  obtain ⟨fd_neartable, FD_neartable⟩ := c.x.def_ 3 (d := dd_3) rfl
  have F_neartable : Fun K "near_table" "near_table" s_neartable (He.ga K "near_table") fd_neartable := HX.fun_of FD_neartable
  have D_neartable : Dn K mg "near_table" s_neartable ["places", "ties"] (He.ga K "near_table") fd_neartable := ⟨F_neartable, HX.g_glo X G (c.x.fact 3 (f := HX.fF (.glo "near_table")) rfl), F_neartable.binds (ps := ["places", "ties"]) fun _ _ _ _ _ _ us hl => match us, hl with | [_, _], _ => rfl⟩
  obtain ⟨fd_checkplaces, FD_checkplaces⟩ := c.x.def_ 4 (d := dd_4) rfl
  have F_checkplaces : Fun K "check_places" "check_places" s_checkplaces (He.ga K "check_places") fd_checkplaces := HX.fun_of FD_checkplaces
  have D_checkplaces : Dn K mg "check_places" s_checkplaces ["places"] (He.ga K "check_places") fd_checkplaces := ⟨F_checkplaces, HX.g_glo X G (c.x.fact 4 (f := HX.fF (.glo "check_places")) rfl), F_checkplaces.binds (ps := ["places"]) fun _ _ _ _ _ _ us hl => match us, hl with | [_], _ => rfl⟩
  obtain ⟨fd_checkties, FD_checkties⟩ := c.x.def_ 5 (d := dd_5) rfl
  have F_checkties : Fun K "check_ties" "check_ties" s_checkties (He.ga K "check_ties") fd_checkties := HX.fun_of FD_checkties
  have D_checkties : Dn K mg "check_ties" s_checkties ["places", "ties"] (He.ga K "check_ties") fd_checkties := ⟨F_checkties, HX.g_glo X G (c.x.fact 5 (f := HX.fF (.glo "check_ties")) rfl), F_checkties.binds (ps := ["places", "ties"]) fun _ _ _ _ _ _ us hl => match us, hl with | [_, _], _ => rfl⟩
  obtain ⟨fd_checkrepeats, FD_checkrepeats⟩ := c.x.def_ 6 (d := dd_6) rfl
  have F_checkrepeats : Fun K "check_repeats" "check_repeats" s_checkrepeats (He.ga K "check_repeats") fd_checkrepeats := HX.fun_of FD_checkrepeats
  have D_checkrepeats : Dn K mg "check_repeats" s_checkrepeats ["places", "ties"] (He.ga K "check_repeats") fd_checkrepeats := ⟨F_checkrepeats, HX.g_glo X G (c.x.fact 6 (f := HX.fF (.glo "check_repeats")) rfl), F_checkrepeats.binds (ps := ["places", "ties"]) fun _ _ _ _ _ _ us hl => match us, hl with | [_, _], _ => rfl⟩
  obtain ⟨fd_checksigns, FD_checksigns⟩ := c.x.def_ 7 (d := dd_7) rfl
  have F_checksigns : Fun K "check_signs" "check_signs" s_checksigns (He.ga K "check_signs") fd_checksigns := HX.fun_of FD_checksigns
  have D_checksigns : Dn K mg "check_signs" s_checksigns ["signs", "many"] (He.ga K "check_signs") fd_checksigns := ⟨F_checksigns, HX.g_glo X G (c.x.fact 7 (f := HX.fF (.glo "check_signs")) rfl), F_checksigns.binds (ps := ["signs", "many"]) fun _ _ _ _ _ _ us hl => match us, hl with | [_, _], _ => rfl⟩
  obtain ⟨fd_emptyboard, FD_emptyboard⟩ := c.x.def_ 8 (d := dd_8) rfl
  have F_emptyboard : Fun K "empty_board" "empty_board" s_emptyboard (He.ga K "empty_board") fd_emptyboard := HX.fun_of FD_emptyboard
  have D_emptyboard : Dn K mg "empty_board" s_emptyboard ["web"] (He.ga K "empty_board") fd_emptyboard := ⟨F_emptyboard, HX.g_glo X G (c.x.fact 8 (f := HX.fF (.glo "empty_board")) rfl), F_emptyboard.binds (ps := ["web"]) fun _ _ _ _ _ _ us hl => match us, hl with | [_], _ => rfl⟩
  obtain ⟨fd_store, FD_store⟩ := c.x.def_ 9 (d := dd_9) rfl
  have F_store : Fun K "_law_store" "_law_store" s_store (He.ga K "_law_store") fd_store := HX.fun_of FD_store
  have D_store : Dn K mg "_law_store" s_store ["script"] (He.ga K "_law_store") fd_store := ⟨F_store, HX.g_glo X G (c.x.fact 9 (f := HX.fF (.glo "_law_store")) rfl), F_store.binds (ps := ["script"]) fun _ _ _ _ _ _ us hl => match us, hl with | [_], _ => rfl⟩
  obtain ⟨fd_mixed, FD_mixed⟩ := c.x.def_ 10 (d := dd_10) rfl
  have F_mixed : Fun K "_law_mixed" "_law_mixed" s_mixed (He.ga K "_law_mixed") fd_mixed := HX.fun_of FD_mixed
  have D_mixed : Dn K mg "_law_mixed" s_mixed ["number", "turn", "many"] (He.ga K "_law_mixed") fd_mixed := ⟨F_mixed, HX.g_glo X G (c.x.fact 10 (f := HX.fF (.glo "_law_mixed")) rfl), F_mixed.binds (ps := ["number", "turn", "many"]) fun _ _ _ _ _ _ us hl => match us, hl with | [_, _, _], _ => rfl⟩
  obtain ⟨fd_take, FD_take⟩ := c.x.def_ 11 (d := dd_11) rfl
  have F_take : Fun K "_law_take" "_law_take" s_take (He.ga K "_law_take") fd_take := HX.fun_of FD_take
  have D_take : Dn K mg "_law_take" s_take ["store", "many"] (He.ga K "_law_take") fd_take := ⟨F_take, HX.g_glo X G (c.x.fact 11 (f := HX.fF (.glo "_law_take")) rfl), F_take.binds (ps := ["store", "many"]) fun _ _ _ _ _ _ us hl => match us, hl with | [_, _], _ => rfl⟩
  obtain ⟨fd_pick, FD_pick⟩ := c.x.def_ 12 (d := dd_12) rfl
  have F_pick : Fun K "_law_pick" "_law_pick" s_pick (He.ga K "_law_pick") fd_pick := HX.fun_of FD_pick
  have D_pick : Dn K mg "_law_pick" s_pick ["store", "row"] (He.ga K "_law_pick") fd_pick := ⟨F_pick, HX.g_glo X G (c.x.fact 12 (f := HX.fF (.glo "_law_pick")) rfl), F_pick.binds (ps := ["store", "row"]) fun _ _ _ _ _ _ us hl => match us, hl with | [_, _], _ => rfl⟩
  obtain ⟨fd_chance, FD_chance⟩ := c.x.def_ 13 (d := dd_13) rfl
  have F_chance : Fun K "_law_chance" "_law_chance" s_chance (He.ga K "_law_chance") fd_chance := HX.fun_of FD_chance
  have D_chance : Dn K mg "_law_chance" s_chance ["store", "many"] (He.ga K "_law_chance") fd_chance := ⟨F_chance, HX.g_glo X G (c.x.fact 13 (f := HX.fF (.glo "_law_chance")) rfl), F_chance.binds (ps := ["store", "many"]) fun _ _ _ _ _ _ us hl => match us, hl with | [_, _], _ => rfl⟩
  obtain ⟨fd_number, FD_number⟩ := c.x.def_ 14 (d := dd_14) rfl
  have F_number : Fun K "_law_number" "_law_number" s_number (He.ga K "_law_number") fd_number := HX.fun_of FD_number
  have D_number : Dn K mg "_law_number" s_number ["store", "low", "high"] (He.ga K "_law_number") fd_number := ⟨F_number, HX.g_glo X G (c.x.fact 14 (f := HX.fF (.glo "_law_number")) rfl), F_number.binds (ps := ["store", "low", "high"]) fun _ _ _ _ _ _ us hl => match us, hl with | [_, _, _], _ => rfl⟩
  obtain ⟨fd_size, FD_size⟩ := c.x.def_ 15 (d := dd_15) rfl
  have F_size : Fun K "_law_size" "_law_size" s_size (He.ga K "_law_size") fd_size := HX.fun_of FD_size
  have D_size : Dn K mg "_law_size" s_size ["store", "low", "high"] (He.ga K "_law_size") fd_size := ⟨F_size, HX.g_glo X G (c.x.fact 15 (f := HX.fF (.glo "_law_size")) rfl), F_size.binds (ps := ["store", "low", "high"]) fun _ _ _ _ _ _ us hl => match us, hl with | [_, _, _], _ => rfl⟩
  obtain ⟨fd_shuffled, FD_shuffled⟩ := c.x.def_ 16 (d := dd_16) rfl
  have F_shuffled : Fun K "_law_shuffled" "_law_shuffled" s_shuffled (He.ga K "_law_shuffled") fd_shuffled := HX.fun_of FD_shuffled
  have D_shuffled : Dn K mg "_law_shuffled" s_shuffled ["store", "row"] (He.ga K "_law_shuffled") fd_shuffled := ⟨F_shuffled, HX.g_glo X G (c.x.fact 16 (f := HX.fF (.glo "_law_shuffled")) rfl), F_shuffled.binds (ps := ["store", "row"]) fun _ _ _ _ _ _ us hl => match us, hl with | [_, _], _ => rfl⟩
  obtain ⟨fd_signsoftexts, FD_signsoftexts⟩ := c.x.def_ 17 (d := dd_17) rfl
  have F_signsoftexts : Fun K "_law_signs_of_texts" "_law_signs_of_texts" s_signsoftexts (He.ga K "_law_signs_of_texts") fd_signsoftexts := HX.fun_of FD_signsoftexts
  have D_signsoftexts : Dn K mg "_law_signs_of_texts" s_signsoftexts [] (He.ga K "_law_signs_of_texts") fd_signsoftexts := ⟨F_signsoftexts, HX.g_glo X G (c.x.fact 17 (f := HX.fF (.glo "_law_signs_of_texts")) rfl), F_signsoftexts.binds (ps := []) fun _ _ _ _ _ _ us hl => match us, hl with | [], _ => rfl⟩
  obtain ⟨fd_text, FD_text⟩ := c.x.def_ 18 (d := dd_18) rfl
  have F_text : Fun K "_law_text" "_law_text" s_text (He.ga K "_law_text") fd_text := HX.fun_of FD_text
  have D_text : Dn K mg "_law_text" s_text ["store", "high"] (He.ga K "_law_text") fd_text := ⟨F_text, HX.g_glo X G (c.x.fact 18 (f := HX.fF (.glo "_law_text")) rfl), F_text.binds (ps := ["store", "high"]) fun _ _ _ _ _ _ us hl => match us, hl with | [_, _], _ => rfl⟩
  obtain ⟨fd_name, FD_name⟩ := c.x.def_ 19 (d := dd_19) rfl
  have F_name : Fun K "_law_name" "_law_name" s_name (He.ga K "_law_name") fd_name := HX.fun_of FD_name
  have D_name : Dn K mg "_law_name" s_name ["store"] (He.ga K "_law_name") fd_name := ⟨F_name, HX.g_glo X G (c.x.fact 19 (f := HX.fF (.glo "_law_name")) rfl), F_name.binds (ps := ["store"]) fun _ _ _ _ _ _ us hl => match us, hl with | [_], _ => rfl⟩
  obtain ⟨fd_badname, FD_badname⟩ := c.x.def_ 20 (d := dd_20) rfl
  have F_badname : Fun K "_law_bad_name" "_law_bad_name" s_badname (He.ga K "_law_bad_name") fd_badname := HX.fun_of FD_badname
  have D_badname : Dn K mg "_law_bad_name" s_badname ["store"] (He.ga K "_law_bad_name") fd_badname := ⟨F_badname, HX.g_glo X G (c.x.fact 20 (f := HX.fF (.glo "_law_bad_name")) rfl), F_badname.binds (ps := ["store"]) fun _ _ _ _ _ _ us hl => match us, hl with | [_], _ => rfl⟩
  obtain ⟨fd_unlike, FD_unlike⟩ := c.x.def_ 21 (d := dd_21) rfl
  have F_unlike : Fun K "_law_unlike" "_law_unlike" s_unlike (He.ga K "_law_unlike") fd_unlike := HX.fun_of FD_unlike
  have D_unlike : Dn K mg "_law_unlike" s_unlike ["name", "taken"] (He.ga K "_law_unlike") fd_unlike := ⟨F_unlike, HX.g_glo X G (c.x.fact 21 (f := HX.fF (.glo "_law_unlike")) rfl), F_unlike.binds (ps := ["name", "taken"]) fun _ _ _ _ _ _ us hl => match us, hl with | [_, _], _ => rfl⟩
  obtain ⟨fd_names, FD_names⟩ := c.x.def_ 22 (d := dd_22) rfl
  have F_names : Fun K "_law_names" "_law_names" s_names (He.ga K "_law_names") fd_names := HX.fun_of FD_names
  have D_names : Dn K mg "_law_names" s_names ["store", "many", "taken"] (He.ga K "_law_names") fd_names := ⟨F_names, HX.g_glo X G (c.x.fact 22 (f := HX.fF (.glo "_law_names")) rfl), F_names.binds (ps := ["store", "many", "taken"]) fun _ _ _ _ _ _ us hl => match us, hl with | [_, _, _], _ => rfl⟩
  obtain ⟨fd_stranger, FD_stranger⟩ := c.x.def_ 23 (d := dd_23) rfl
  have F_stranger : Fun K "_law_stranger" "_law_stranger" s_stranger (He.ga K "_law_stranger") fd_stranger := HX.fun_of FD_stranger
  have D_stranger : Dn K mg "_law_stranger" s_stranger ["store", "taken"] (He.ga K "_law_stranger") fd_stranger := ⟨F_stranger, HX.g_glo X G (c.x.fact 23 (f := HX.fF (.glo "_law_stranger")) rfl), F_stranger.binds (ps := ["store", "taken"]) fun _ _ _ _ _ _ us hl => match us, hl with | [_, _], _ => rfl⟩
  obtain ⟨fd_webof, FD_webof⟩ := c.x.def_ 24 (d := dd_24) rfl
  have F_webof : Fun K "_law_web_of" "_law_web_of" s_webof (He.ga K "_law_web_of") fd_webof := HX.fun_of FD_webof
  have D_webof : Dn K mg "_law_web_of" s_webof ["places", "ties"] (He.ga K "_law_web_of") fd_webof := ⟨F_webof, HX.g_glo X G (c.x.fact 24 (f := HX.fF (.glo "_law_web_of")) rfl), F_webof.binds (ps := ["places", "ties"]) fun _ _ _ _ _ _ us hl => match us, hl with | [_, _], _ => rfl⟩
  obtain ⟨fd_shape, FD_shape⟩ := c.x.def_ 25 (d := dd_25) rfl
  have F_shape : Fun K "_law_shape" "_law_shape" s_shape (He.ga K "_law_shape") fd_shape := HX.fun_of FD_shape
  have D_shape : Dn K mg "_law_shape" s_shape ["store", "many", "bound"] (He.ga K "_law_shape") fd_shape := ⟨F_shape, HX.g_glo X G (c.x.fact 25 (f := HX.fF (.glo "_law_shape")) rfl), F_shape.binds (ps := ["store", "many", "bound"]) fun _ _ _ _ _ _ us hl => match us, hl with | [_, _, _], _ => rfl⟩
  obtain ⟨fd_websized, FD_websized⟩ := c.x.def_ 26 (d := dd_26) rfl
  have F_websized : Fun K "_law_web_sized" "_law_web_sized" s_websized (He.ga K "_law_web_sized") fd_websized := HX.fun_of FD_websized
  have D_websized : Dn K mg "_law_web_sized" s_websized ["store", "many", "bound", "taken"] (He.ga K "_law_web_sized") fd_websized := ⟨F_websized, HX.g_glo X G (c.x.fact 26 (f := HX.fF (.glo "_law_web_sized")) rfl), F_websized.binds (ps := ["store", "many", "bound", "taken"]) fun _ _ _ _ _ _ us hl => match us, hl with | [_, _, _, _], _ => rfl⟩
  obtain ⟨fd_signs, FD_signs⟩ := c.x.def_ 27 (d := dd_27) rfl
  have F_signs : Fun K "_law_signs" "_law_signs" s_signs (He.ga K "_law_signs") fd_signs := HX.fun_of FD_signs
  have D_signs : Dn K mg "_law_signs" s_signs ["store", "web"] (He.ga K "_law_signs") fd_signs := ⟨F_signs, HX.g_glo X G (c.x.fact 27 (f := HX.fF (.glo "_law_signs")) rfl), F_signs.binds (ps := ["store", "web"]) fun _ _ _ _ _ _ us hl => match us, hl with | [_, _], _ => rfl⟩
  obtain ⟨fd_badsigns, FD_badsigns⟩ := c.x.def_ 28 (d := dd_28) rfl
  have F_badsigns : Fun K "_law_bad_signs" "_law_bad_signs" s_badsigns (He.ga K "_law_bad_signs") fd_badsigns := HX.fun_of FD_badsigns
  have D_badsigns : Dn K mg "_law_bad_signs" s_badsigns ["store", "web"] (He.ga K "_law_bad_signs") fd_badsigns := ⟨F_badsigns, HX.g_glo X G (c.x.fact 28 (f := HX.fF (.glo "_law_bad_signs")) rfl), F_badsigns.binds (ps := ["store", "web"]) fun _ _ _ _ _ _ us hl => match us, hl with | [_, _], _ => rfl⟩
  obtain ⟨fd_like, FD_like⟩ := c.x.def_ 29 (d := dd_29) rfl
  have F_like : Fun K "_law_like" "_law_like" s_like (He.ga K "_law_like") fd_like := HX.fun_of FD_like
  have D_like : Dn K mg "_law_like" s_like ["one", "two"] (He.ga K "_law_like") fd_like := ⟨F_like, HX.g_glo X G (c.x.fact 29 (f := HX.fF (.glo "_law_like")) rfl), F_like.binds (ps := ["one", "two"]) fun _ _ _ _ _ _ us hl => match us, hl with | [_, _], _ => rfl⟩
  obtain ⟨fd_kinds, FD_kinds⟩ := c.x.def_ 30 (d := dd_30) rfl
  have F_kinds : Fun K "_law_kinds" "_law_kinds" s_kinds (He.ga K "_law_kinds") fd_kinds := HX.fun_of FD_kinds
  have D_kinds : Dn K mg "_law_kinds" s_kinds ["x"] (He.ga K "_law_kinds") fd_kinds := ⟨F_kinds, HX.g_glo X G (c.x.fact 30 (f := HX.fF (.glo "_law_kinds")) rfl), F_kinds.binds (ps := ["x"]) fun _ _ _ _ _ _ us hl => match us, hl with | [_], _ => rfl⟩
  obtain ⟨fd_due, FD_due⟩ := c.x.def_ 31 (d := dd_31) rfl
  have F_due : Fun K "_law_due" "_law_due" s_due (He.ga K "_law_due") fd_due := HX.fun_of FD_due
  have D_due : Dn K mg "_law_due" s_due ["kind", "values"] (He.ga K "_law_due") fd_due := ⟨F_due, HX.g_glo X G (c.x.fact 31 (f := HX.fF (.glo "_law_due")) rfl), F_due.binds (ps := ["kind", "values"]) fun _ _ _ _ _ _ us hl => match us, hl with | [_, _], _ => rfl⟩
  obtain ⟨fd_odd, FD_odd⟩ := c.x.def_ 32 (d := dd_32) rfl
  have F_odd : Fun K "_law_odd" "_law_odd" s_odd (He.ga K "_law_odd") fd_odd := HX.fun_of FD_odd
  have D_odd : Dn K mg "_law_odd" s_odd ["store", "places"] (He.ga K "_law_odd") fd_odd := ⟨F_odd, HX.g_glo X G (c.x.fact 32 (f := HX.fF (.glo "_law_odd")) rfl), F_odd.binds (ps := ["store", "places"]) fun _ _ _ _ _ _ us hl => match us, hl with | [_, _], _ => rfl⟩
  obtain ⟨fd_departs, FD_departs⟩ := c.x.def_ 33 (d := dd_33) rfl
  have F_departs : Fun K "_law_departs" "_law_departs" s_departs (He.ga K "_law_departs") fd_departs := HX.fun_of FD_departs
  have D_departs : Dn K mg "_law_departs" s_departs ["places", "signs"] (He.ga K "_law_departs") fd_departs := ⟨F_departs, HX.g_glo X G (c.x.fact 33 (f := HX.fF (.glo "_law_departs")) rfl), F_departs.binds (ps := ["places", "signs"]) fun _ _ _ _ _ _ us hl => match us, hl with | [_, _], _ => rfl⟩
  obtain ⟨fd_toldboard, FD_toldboard⟩ := c.x.def_ 34 (d := dd_34) rfl
  have F_toldboard : Fun K "_law_told_board" "_law_told_board" s_toldboard (He.ga K "_law_told_board") fd_toldboard := HX.fun_of FD_toldboard
  have D_toldboard : Dn K mg "_law_told_board" s_toldboard ["web", "signs"] (He.ga K "_law_told_board") fd_toldboard := ⟨F_toldboard, HX.g_glo X G (c.x.fact 34 (f := HX.fF (.glo "_law_told_board")) rfl), F_toldboard.binds (ps := ["web", "signs"]) fun _ _ _ _ _ _ us hl => match us, hl with | [_, _], _ => rfl⟩
  obtain ⟨fd_toldsign, FD_toldsign⟩ := c.x.def_ 35 (d := dd_35) rfl
  have F_toldsign : Fun K "_law_told_sign" "_law_told_sign" s_toldsign (He.ga K "_law_told_sign") fd_toldsign := HX.fun_of FD_toldsign
  have D_toldsign : Dn K mg "_law_told_sign" s_toldsign ["board", "place"] (He.ga K "_law_told_sign") fd_toldsign := ⟨F_toldsign, HX.g_glo X G (c.x.fact 35 (f := HX.fF (.glo "_law_told_sign")) rfl), F_toldsign.binds (ps := ["board", "place"]) fun _ _ _ _ _ _ us hl => match us, hl with | [_, _], _ => rfl⟩
  obtain ⟨fd_toldhand, FD_toldhand⟩ := c.x.def_ 36 (d := dd_36) rfl
  have F_toldhand : Fun K "_law_told_hand" "_law_told_hand" s_toldhand (He.ga K "_law_told_hand") fd_toldhand := HX.fun_of FD_toldhand
  have D_toldhand : Dn K mg "_law_told_hand" s_toldhand ["board", "place"] (He.ga K "_law_told_hand") fd_toldhand := ⟨F_toldhand, HX.g_glo X G (c.x.fact 36 (f := HX.fF (.glo "_law_told_hand")) rfl), F_toldhand.binds (ps := ["board", "place"]) fun _ _ _ _ _ _ us hl => match us, hl with | [_, _], _ => rfl⟩
  obtain ⟨fd_toldput, FD_toldput⟩ := c.x.def_ 37 (d := dd_37) rfl
  have F_toldput : Fun K "_law_told_put" "_law_told_put" s_toldput (He.ga K "_law_told_put") fd_toldput := HX.fun_of FD_toldput
  have D_toldput : Dn K mg "_law_told_put" s_toldput ["board", "place", "sign"] (He.ga K "_law_told_put") fd_toldput := ⟨F_toldput, HX.g_glo X G (c.x.fact 37 (f := HX.fF (.glo "_law_told_put")) rfl), F_toldput.binds (ps := ["board", "place", "sign"]) fun _ _ _ _ _ _ us hl => match us, hl with | [_, _, _], _ => rfl⟩
  obtain ⟨fd_shows, FD_shows⟩ := c.x.def_ 38 (d := dd_38) rfl
  have F_shows : Fun K "_law_shows" "_law_shows" s_shows (He.ga K "_law_shows") fd_shows := HX.fun_of FD_shows
  have D_shows : Dn K mg "_law_shows" s_shows ["board", "web", "signs"] (He.ga K "_law_shows") fd_shows := ⟨F_shows, HX.g_glo X G (c.x.fact 38 (f := HX.fF (.glo "_law_shows")) rfl), F_shows.binds (ps := ["board", "web", "signs"]) fun _ _ _ _ _ _ us hl => match us, hl with | [_, _, _], _ => rfl⟩
  obtain ⟨fd_putgood, FD_putgood⟩ := c.x.def_ 39 (d := dd_39) rfl
  have F_putgood : Fun K "_law_put_good" "_law_put_good" s_putgood (He.ga K "_law_put_good") fd_putgood := HX.fun_of FD_putgood
  have D_putgood : Dn K mg "_law_put_good" s_putgood ["board", "web", "signs", "place", "sign"] (He.ga K "_law_put_good") fd_putgood := ⟨F_putgood, HX.g_glo X G (c.x.fact 39 (f := HX.fF (.glo "_law_put_good")) rfl), F_putgood.binds (ps := ["board", "web", "signs", "place", "sign"]) fun _ _ _ _ _ _ us hl => match us, hl with | [_, _, _, _, _], _ => rfl⟩
  obtain ⟨fd_oddgood, FD_oddgood⟩ := c.x.def_ 40 (d := dd_40) rfl
  have F_oddgood : Fun K "_law_odd_good" "_law_odd_good" s_oddgood (He.ga K "_law_odd_good") fd_oddgood := HX.fun_of FD_oddgood
  have D_oddgood : Dn K mg "_law_odd_good" s_oddgood ["board", "place", "sign"] (He.ga K "_law_odd_good") fd_oddgood := ⟨F_oddgood, HX.g_glo X G (c.x.fact 40 (f := HX.fF (.glo "_law_odd_good")) rfl), F_oddgood.binds (ps := ["board", "place", "sign"]) fun _ _ _ _ _ _ us hl => match us, hl with | [_, _, _], _ => rfl⟩
  have FD_law := FD
  have fd_law := fd
  have F_law : Fun K "law" "law" s_law (He.ga K "law") fd := HX.fun_of FD_law
  have D_law : Dn K mg "law" s_law ["script"] (He.ga K "law") fd := ⟨F_law, HX.g_glo X G (c.x.fact 41 (f := HX.fF (.glo "law")) rfl), F_law.binds (ps := ["script"]) fun _ _ _ _ _ _ us hl => match us, hl with | [_], _ => rfl⟩
  obtain ⟨fd_iNoPlace, FD_iNoPlace⟩ := c.x.def_ 42 (d := dd_42) rfl
  have F_iNoPlace : Fun K "__init__" "NoPlace.__init__" s_iNoPlace (He.ma K (He.ga K "NoPlace") "__init__") fd_iNoPlace := HX.fun_of FD_iNoPlace
  have B_iNoPlace := F_iNoPlace.binds (ps := ["self", "place"]) fun _ _ _ _ _ _ us hl => match us, hl with | [_, _], _ => rfl
  obtain ⟨fd_iBadSigns, FD_iBadSigns⟩ := c.x.def_ 43 (d := dd_43) rfl
  have F_iBadSigns : Fun K "__init__" "BadSigns.__init__" s_iBadSigns (He.ma K (He.ga K "BadSigns") "__init__") fd_iBadSigns := HX.fun_of FD_iBadSigns
  have B_iBadSigns := F_iBadSigns.binds (ps := ["self", "at"]) fun _ _ _ _ _ _ us hl => match us, hl with | [_, _], _ => rfl
  obtain ⟨fd_iWeb, FD_iWeb⟩ := c.x.def_ 44 (d := dd_44) rfl
  have F_iWeb : Fun K "__init__" "Web.__init__" s_iWeb (He.ma K (He.ga K "Web") "__init__") fd_iWeb := HX.fun_of FD_iWeb
  have B_iWeb := F_iWeb.binds (ps := ["self", "places", "ties"]) fun _ _ _ _ _ _ us hl => match us, hl with | [_, _, _], _ => rfl
  obtain ⟨fd_mWeb_len, FD_mWeb_len⟩ := c.x.def_ 45 (d := dd_45) rfl
  have F_mWeb_len : Fun K "__len__" "Web.__len__" s_mWeb_len (He.ma K (He.ga K "Web") "__len__") fd_mWeb_len := HX.fun_of FD_mWeb_len
  have B_mWeb_len := F_mWeb_len.binds (ps := ["self"]) fun _ _ _ _ _ _ us hl => match us, hl with | [_], _ => rfl
  obtain ⟨fd_mWeb_iter, FD_mWeb_iter⟩ := c.x.def_ 46 (d := dd_46) rfl
  have F_mWeb_iter : Fun K "__iter__" "Web.__iter__" s_mWeb_iter (He.ma K (He.ga K "Web") "__iter__") fd_mWeb_iter := HX.fun_of FD_mWeb_iter
  have B_mWeb_iter := F_mWeb_iter.binds (ps := ["self"]) fun _ _ _ _ _ _ us hl => match us, hl with | [_], _ => rfl
  obtain ⟨fd_mWeb_eq, FD_mWeb_eq⟩ := c.x.def_ 47 (d := dd_47) rfl
  have F_mWeb_eq : Fun K "__eq__" "Web.__eq__" s_mWeb_eq (He.ma K (He.ga K "Web") "__eq__") fd_mWeb_eq := HX.fun_of FD_mWeb_eq
  have B_mWeb_eq := F_mWeb_eq.binds (ps := ["self", "other"]) fun _ _ _ _ _ _ us hl => match us, hl with | [_, _], _ => rfl
  obtain ⟨fd_iBoard, FD_iBoard⟩ := c.x.def_ 48 (d := dd_48) rfl
  have F_iBoard : Fun K "__init__" "Board.__init__" s_iBoard (He.ma K (He.ga K "Board") "__init__") fd_iBoard := HX.fun_of FD_iBoard
  have B_iBoard := F_iBoard.binds (ps := ["self", "web", "signs"]) fun _ _ _ _ _ _ us hl => match us, hl with | [_, _, _], _ => rfl
  obtain ⟨fd_mBoard_eq, FD_mBoard_eq⟩ := c.x.def_ 49 (d := dd_49) rfl
  have F_mBoard_eq : Fun K "__eq__" "Board.__eq__" s_mBoard_eq (He.ma K (He.ga K "Board") "__eq__") fd_mBoard_eq := HX.fun_of FD_mBoard_eq
  have B_mBoard_eq := F_mBoard_eq.binds (ps := ["self", "other"]) fun _ _ _ _ _ _ us hl => match us, hl with | [_, _], _ => rfl
  obtain ⟨fd_mBoard_sign, FD_mBoard_sign⟩ := c.x.def_ 50 (d := dd_50) rfl
  have F_mBoard_sign : Fun K "sign" "Board.sign" s_mBoard_sign (He.ma K (He.ga K "Board") "sign") fd_mBoard_sign := HX.fun_of FD_mBoard_sign
  have B_mBoard_sign := F_mBoard_sign.binds (ps := ["self", "place"]) fun _ _ _ _ _ _ us hl => match us, hl with | [_, _], _ => rfl
  obtain ⟨fd_mBoard_handat, FD_mBoard_handat⟩ := c.x.def_ 51 (d := dd_51) rfl
  have F_mBoard_handat : Fun K "hand_at" "Board.hand_at" s_mBoard_handat (He.ma K (He.ga K "Board") "hand_at") fd_mBoard_handat := HX.fun_of FD_mBoard_handat
  have B_mBoard_handat := F_mBoard_handat.binds (ps := ["self", "place"]) fun _ _ _ _ _ _ us hl => match us, hl with | [_, _], _ => rfl
  obtain ⟨fd_mBoard_put, FD_mBoard_put⟩ := c.x.def_ 52 (d := dd_52) rfl
  have F_mBoard_put : Fun K "put" "Board.put" s_mBoard_put (He.ma K (He.ga K "Board") "put") fd_mBoard_put := HX.fun_of FD_mBoard_put
  have B_mBoard_put := F_mBoard_put.binds (ps := ["self", "place", "sign"]) fun _ _ _ _ _ _ us hl => match us, hl with | [_, _, _], _ => rfl
  obtain ⟨fd_mBoard_bearing, FD_mBoard_bearing⟩ := c.x.def_ 53 (d := dd_53) rfl
  have F_mBoard_bearing : Fun K "bearing" "Board.bearing" s_mBoard_bearing (He.ma K (He.ga K "Board") "bearing") fd_mBoard_bearing := HX.fun_of FD_mBoard_bearing
  have B_mBoard_bearing := F_mBoard_bearing.binds (ps := ["self", "sign"]) fun _ _ _ _ _ _ us hl => match us, hl with | [_, _], _ => rfl
  obtain ⟨fd_mWeb_places, F_mWeb_places⟩ := HX.prop_fun (c.prop 0 (d := pd_0) rfl) (c.x.fact 42 (f := HX.prB "Web" "places" "Web.places") rfl)
  have B_mWeb_places := F_mWeb_places.binds (ps := ["self"]) fun _ _ _ _ _ _ us hl => match us, hl with | [_], _ => rfl
  have PR_mWeb_places : PropOf K (He.ga K "Web") "places" (He.ma K (He.ga K "Web") "places") (HX.pa K "Web" "places") := HX.prop_of (c.x.fact 42 (f := HX.prB "Web" "places" "Web.places") rfl)
  obtain ⟨fd_mWeb_ties, F_mWeb_ties⟩ := HX.prop_fun (c.prop 1 (d := pd_1) rfl) (c.x.fact 43 (f := HX.prB "Web" "ties" "Web.ties") rfl)
  have B_mWeb_ties := F_mWeb_ties.binds (ps := ["self"]) fun _ _ _ _ _ _ us hl => match us, hl with | [_], _ => rfl
  have PR_mWeb_ties : PropOf K (He.ga K "Web") "ties" (He.ma K (He.ga K "Web") "ties") (HX.pa K "Web" "ties") := HX.prop_of (c.x.fact 43 (f := HX.prB "Web" "ties" "Web.ties") rfl)
  obtain ⟨fd_mBoard_web, F_mBoard_web⟩ := HX.prop_fun (c.prop 2 (d := pd_2) rfl) (c.x.fact 44 (f := HX.prB "Board" "web" "Board.web") rfl)
  have B_mBoard_web := F_mBoard_web.binds (ps := ["self"]) fun _ _ _ _ _ _ us hl => match us, hl with | [_], _ => rfl
  have PR_mBoard_web : PropOf K (He.ga K "Board") "web" (He.ma K (He.ga K "Board") "web") (HX.pa K "Board" "web") := HX.prop_of (c.x.fact 44 (f := HX.prB "Board" "web" "Board.web") rfl)
  obtain ⟨fd_mBoard_signs, F_mBoard_signs⟩ := HX.prop_fun (c.prop 3 (d := pd_3) rfl) (c.x.fact 45 (f := HX.prB "Board" "signs" "Board.signs") rfl)
  have B_mBoard_signs := F_mBoard_signs.binds (ps := ["self"]) fun _ _ _ _ _ _ us hl => match us, hl with | [_], _ => rfl
  have PR_mBoard_signs : PropOf K (He.ga K "Board") "signs" (He.ma K (He.ga K "Board") "signs") (HX.pa K "Board" "signs") := HX.prop_of (c.x.fact 45 (f := HX.prB "Board" "signs" "Board.signs") rfl)
  have MG_HAND_OF_SIGN := HX.g_glo X G (c.x.fact 46 (f := HX.fF (.glo "HAND_OF_SIGN")) rfl)
  have KD_HAND_OF_SIGN_0 : KDct K w (He.ga K "HAND_OF_SIGN") (Str.ofString "d") (.str (Str.ofString "dark")) := c.at_ 0 (t := ("HAND_OF_SIGN", ["d", "l"])) (kvs := [("d", He.Dv.str "dark"), ("l", He.Dv.str "light")]) (q := ("d", He.Dv.str "dark")) (c.x.fact 47 (f := (fun K => He.valsB K (He.ga K "HAND_OF_SIGN") [("d", He.Dv.str "dark"), ("l", He.Dv.str "light")])) rfl) (by simp) rfl
  have KD_HAND_OF_SIGN_1 : KDct K w (He.ga K "HAND_OF_SIGN") (Str.ofString "l") (.str (Str.ofString "light")) := c.at_ 0 (t := ("HAND_OF_SIGN", ["d", "l"])) (kvs := [("d", He.Dv.str "dark"), ("l", He.Dv.str "light")]) (q := ("l", He.Dv.str "light")) (c.x.fact 47 (f := (fun K => He.valsB K (He.ga K "HAND_OF_SIGN") [("d", He.Dv.str "dark"), ("l", He.Dv.str "light")])) rfl) (by simp) rfl
  have MG_SIGNS := HX.g_glo X G (c.x.fact 48 (f := HX.fF (.glo "SIGNS")) rfl)
  have TU_SIGNS := He.tupB_ok (K := K) (x := "SIGNS") (vs := [He.Dv.str ".", He.Dv.str "d", He.Dv.str "l"]) (c.x.fact 49 (f := (fun K => He.tupB K "SIGNS" [He.Dv.str ".", He.Dv.str "d", He.Dv.str "l"])) rfl)
  have B : Bi mg := ⟨HX.g_free X G (c.x.fact 50 (f := HX.fF (.free "len")) rfl), HX.g_free X G (c.x.fact 51 (f := HX.fF (.free "range")) rfl), HX.g_free X G (c.x.fact 52 (f := HX.fF (.free "abs")) rfl), HX.g_free X G (c.x.fact 53 (f := HX.fF (.free "ord")) rfl), HX.g_free X G (c.x.fact 54 (f := HX.fF (.free "min")) rfl), HX.g_free X G (c.x.fact 55 (f := HX.fF (.free "max")) rfl), HX.g_free X G (c.x.fact 56 (f := HX.fF (.free "all")) rfl), HX.g_free X G (c.x.fact 57 (f := HX.fF (.free "isinstance")) rfl), HX.g_free X G (c.x.fact 58 (f := HX.fF (.free "int")) rfl), HX.g_free X G (c.x.fact 59 (f := HX.fF (.free "str")) rfl), HX.g_free X G (c.x.fact 60 (f := HX.fF (.free "bool")) rfl), HX.g_free X G (c.x.fact 61 (f := HX.fF (.free "list")) rfl), HX.g_free X G (c.x.fact 62 (f := HX.fF (.free "tuple")) rfl), HX.g_free X G (c.x.fact 63 (f := HX.fF (.free "dict")) rfl)⟩
  have B_sorted := HX.g_free X G (c.x.fact 64 (f := HX.fF (.free "sorted")) rfl)
  have B_set := HX.g_free X G (c.x.fact 65 (f := HX.fF (.free "set")) rfl)
  have B_any := HX.g_free X G (c.x.fact 66 (f := HX.fF (.free "any")) rfl)
  have B_ValueError := HX.g_free X G (c.x.fact 67 (f := HX.fF (.free "ValueError")) rfl)
  have B_zip := HX.g_free X G (c.x.fact 68 (f := HX.fF (.free "zip")) rfl)
  have B_iter := HX.g_free X G (c.x.fact 69 (f := HX.fF (.free "iter")) rfl)
  have B_enumerate := HX.g_free X G (c.x.fact 70 (f := HX.fF (.free "enumerate")) rfl)
  have B_dict := HX.g_free X G (c.x.fact 63 (f := HX.fF (.free "dict")) rfl)
  obtain ⟨t_LETTERS, MG_LETTERS⟩ := HX.g_str X G (c.x.fact 71 (f := HX.fF (.str "LETTERS" "abcdefghijklmnopqrstuvwxyz")) rfl)
  obtain ⟨t_DIGITS, MG_DIGITS⟩ := HX.g_str X G (c.x.fact 72 (f := HX.fF (.str "DIGITS" "0123456789")) rfl)
  obtain ⟨t_LONGEST_NAME, MG_LONGEST_NAME⟩ := HX.g_int X G (c.x.fact 73 (f := HX.fF (.int "LONGEST_NAME" 6)) rfl)
  obtain ⟨t_MOST_PLACES, MG_MOST_PLACES⟩ := HX.g_int X G (c.x.fact 74 (f := HX.fF (.int "MOST_PLACES" 20)) rfl)
  obtain ⟨t_MOST_TIES, MG_MOST_TIES⟩ := HX.g_int X G (c.x.fact 75 (f := HX.fF (.int "MOST_TIES" 60)) rfl)
  obtain ⟨t_FREE, MG_FREE⟩ := HX.g_str X G (c.x.fact 76 (f := HX.fF (.str "FREE" ".")) rfl)
  have oex_NoPlace := HX.oex_ok (c.x.fact 77 (f := HX.oexB "NoPlace") rfl)
  have ini_NoPlace := HX.ini_ok (c.x.fact 78 (f := HX.iniB "NoPlace") rfl)
  have X_NoPlace : Exn K mg "NoPlace" (He.ga K "NoPlace") (He.ma K (He.ga K "NoPlace") "__init__") := ⟨oex_NoPlace, HX.g_glo X G (c.x.fact 79 (f := HX.fF (.glo "NoPlace")) rfl), ini_NoPlace.1, ini_NoPlace.2⟩
  have XF_NoPlace := HX.xfc_ok (c.x.fact 80 (f := HX.xfcB "NoPlace") rfl)
  have XC_NoPlace := HX.exc_ok (c.x.fact 80 (f := HX.xfcB "NoPlace") rfl) (c.x.fact 81 (f := HX.isaB "NoPlace") rfl)
  have BI_NoPlace := B_iNoPlace
  have me_NoPlace := HX.exm_ok (c.x.fact 82 (f := HX.exmB "NoPlace" "NoPlace" true) rfl)
  have no_NoPlace_place := HX.no_ok (c.x.fact 83 (f := HX.noB "NoPlace" "place") rfl)
  have kn_NoPlace : ∀ x ∈ excs, Kn K mg (He.ga K "NoPlace") "NoPlace" x := List.forall_mem_cons.2 ⟨⟨_, HX.g_glo X G (c.x.fact 84 (f := HX.fF (.glo "TworoomsError")) rfl), HX.kit_ok (c.x.fact 85 (f := HX.kitB "NoPlace" "TworoomsError" true) rfl)⟩, List.forall_mem_cons.2 ⟨⟨_, HX.g_glo X G (c.x.fact 86 (f := HX.fF (.glo "BadNumber")) rfl), HX.kit_ok (c.x.fact 87 (f := HX.kitB "NoPlace" "BadNumber" false) rfl)⟩, List.forall_mem_cons.2 ⟨⟨_, HX.g_glo X G (c.x.fact 88 (f := HX.fF (.glo "NoHand")) rfl), HX.kit_ok (c.x.fact 89 (f := HX.kitB "NoPlace" "NoHand" false) rfl)⟩, List.forall_mem_cons.2 ⟨⟨_, HX.g_glo X G (c.x.fact 90 (f := HX.fF (.glo "BadName")) rfl), HX.kit_ok (c.x.fact 91 (f := HX.kitB "NoPlace" "BadName" false) rfl)⟩, List.forall_mem_cons.2 ⟨⟨_, HX.g_glo X G (c.x.fact 92 (f := HX.fF (.glo "TooMany")) rfl), HX.kit_ok (c.x.fact 93 (f := HX.kitB "NoPlace" "TooMany" false) rfl)⟩, List.forall_mem_cons.2 ⟨⟨_, HX.g_glo X G (c.x.fact 94 (f := HX.fF (.glo "NoEntry")) rfl), HX.kit_ok (c.x.fact 95 (f := HX.kitB "NoPlace" "NoEntry" false) rfl)⟩, List.forall_mem_cons.2 ⟨⟨_, HX.g_glo X G (c.x.fact 79 (f := HX.fF (.glo "NoPlace")) rfl), HX.kit_ok (c.x.fact 96 (f := HX.kitB "NoPlace" "NoPlace" true) rfl)⟩, List.forall_mem_cons.2 ⟨⟨_, HX.g_glo X G (c.x.fact 97 (f := HX.fF (.glo "SelfTie")) rfl), HX.kit_ok (c.x.fact 98 (f := HX.kitB "NoPlace" "SelfTie" false) rfl)⟩, List.forall_mem_cons.2 ⟨⟨_, HX.g_glo X G (c.x.fact 99 (f := HX.fF (.glo "Repeated")) rfl), HX.kit_ok (c.x.fact 100 (f := HX.kitB "NoPlace" "Repeated" false) rfl)⟩, List.forall_mem_cons.2 ⟨⟨_, HX.g_glo X G (c.x.fact 101 (f := HX.fF (.glo "BadSigns")) rfl), HX.kit_ok (c.x.fact 102 (f := HX.kitB "NoPlace" "BadSigns" false) rfl)⟩, List.forall_mem_cons.2 ⟨⟨_, HX.g_glo X G (c.x.fact 103 (f := HX.fF (.glo "BadText")) rfl), HX.kit_ok (c.x.fact 104 (f := HX.kitB "NoPlace" "BadText" false) rfl)⟩, List.forall_mem_cons.2 ⟨⟨_, HX.g_glo X G (c.x.fact 105 (f := HX.fF (.glo "BadTree")) rfl), HX.kit_ok (c.x.fact 106 (f := HX.kitB "NoPlace" "BadTree" false) rfl)⟩, List.forall_mem_cons.2 ⟨⟨_, HX.g_glo X G (c.x.fact 107 (f := HX.fF (.glo "BadMap")) rfl), HX.kit_ok (c.x.fact 108 (f := HX.kitB "NoPlace" "BadMap" false) rfl)⟩, List.forall_mem_cons.2 ⟨⟨_, HX.g_glo X G (c.x.fact 109 (f := HX.fF (.glo "NotRight")) rfl), HX.kit_ok (c.x.fact 110 (f := HX.kitB "NoPlace" "NotRight" false) rfl)⟩, List.forall_mem_cons.2 ⟨⟨_, HX.g_glo X G (c.x.fact 111 (f := HX.fF (.glo "NoStone")) rfl), HX.kit_ok (c.x.fact 112 (f := HX.kitB "NoPlace" "NoStone" false) rfl)⟩, List.forall_mem_cons.2 ⟨⟨_, HX.g_glo X G (c.x.fact 113 (f := HX.fF (.glo "Stands")) rfl), HX.kit_ok (c.x.fact 114 (f := HX.kitB "NoPlace" "Stands" false) rfl)⟩, List.forall_mem_cons.2 ⟨⟨_, HX.g_glo X G (c.x.fact 115 (f := HX.fF (.glo "Falls")) rfl), HX.kit_ok (c.x.fact 116 (f := HX.kitB "NoPlace" "Falls" false) rfl)⟩, List.forall_mem_cons.2 ⟨⟨_, HX.g_glo X G (c.x.fact 117 (f := HX.fF (.glo "GameOver")) rfl), HX.kit_ok (c.x.fact 118 (f := HX.kitB "NoPlace" "GameOver" false) rfl)⟩, List.forall_mem_cons.2 ⟨⟨_, HX.g_glo X G (c.x.fact 119 (f := HX.fF (.glo "Occupied")) rfl), HX.kit_ok (c.x.fact 120 (f := HX.kitB "NoPlace" "Occupied" false) rfl)⟩, List.forall_mem_cons.2 ⟨⟨_, HX.g_glo X G (c.x.fact 121 (f := HX.fF (.glo "SelfTaking")) rfl), HX.kit_ok (c.x.fact 122 (f := HX.kitB "NoPlace" "SelfTaking" false) rfl)⟩, List.forall_mem_cons.2 ⟨⟨_, HX.g_glo X G (c.x.fact 123 (f := HX.fF (.glo "ComesBack")) rfl), HX.kit_ok (c.x.fact 124 (f := HX.kitB "NoPlace" "ComesBack" false) rfl)⟩, List.forall_mem_cons.2 ⟨⟨_, HX.g_glo X G (c.x.fact 125 (f := HX.fF (.glo "BadDeed")) rfl), HX.kit_ok (c.x.fact 126 (f := HX.kitB "NoPlace" "BadDeed" false) rfl)⟩, List.forall_mem_cons.2 ⟨⟨_, HX.g_glo X G (c.x.fact 127 (f := HX.fF (.glo "NothingDone")) rfl), HX.kit_ok (c.x.fact 128 (f := HX.kitB "NoPlace" "NothingDone" false) rfl)⟩, List.forall_mem_cons.2 ⟨⟨_, HX.g_glo X G (c.x.fact 129 (f := HX.fF (.glo "BadRow")) rfl), HX.kit_ok (c.x.fact 130 (f := HX.kitB "NoPlace" "BadRow" false) rfl)⟩, fun _ h => nomatch h⟩⟩⟩⟩⟩⟩⟩⟩⟩⟩⟩⟩⟩⟩⟩⟩⟩⟩⟩⟩⟩⟩⟩⟩
  have kit_NoPlace_ValueError := HX.kitV_ok (c.x.fact 131 (f := HX.kitV "NoPlace" "ValueError" true) rfl)
  have oex_BadSigns := HX.oex_ok (c.x.fact 132 (f := HX.oexB "BadSigns") rfl)
  have ini_BadSigns := HX.ini_ok (c.x.fact 133 (f := HX.iniB "BadSigns") rfl)
  have X_BadSigns : Exn K mg "BadSigns" (He.ga K "BadSigns") (He.ma K (He.ga K "BadSigns") "__init__") := ⟨oex_BadSigns, HX.g_glo X G (c.x.fact 101 (f := HX.fF (.glo "BadSigns")) rfl), ini_BadSigns.1, ini_BadSigns.2⟩
  have XF_BadSigns := HX.xfc_ok (c.x.fact 134 (f := HX.xfcB "BadSigns") rfl)
  have XC_BadSigns := HX.exc_ok (c.x.fact 134 (f := HX.xfcB "BadSigns") rfl) (c.x.fact 135 (f := HX.isaB "BadSigns") rfl)
  have BI_BadSigns := B_iBadSigns
  have me_BadSigns := HX.exm_ok (c.x.fact 136 (f := HX.exmB "BadSigns" "BadSigns" true) rfl)
  have no_BadSigns_at := HX.no_ok (c.x.fact 137 (f := HX.noB "BadSigns" "at") rfl)
  have me_BadSigns_NoPlace := HX.exm_ok (c.x.fact 138 (f := HX.exmB "BadSigns" "NoPlace" false) rfl)
  have kn_BadSigns : ∀ x ∈ excs, Kn K mg (He.ga K "BadSigns") "BadSigns" x := List.forall_mem_cons.2 ⟨⟨_, HX.g_glo X G (c.x.fact 84 (f := HX.fF (.glo "TworoomsError")) rfl), HX.kit_ok (c.x.fact 139 (f := HX.kitB "BadSigns" "TworoomsError" true) rfl)⟩, List.forall_mem_cons.2 ⟨⟨_, HX.g_glo X G (c.x.fact 86 (f := HX.fF (.glo "BadNumber")) rfl), HX.kit_ok (c.x.fact 140 (f := HX.kitB "BadSigns" "BadNumber" false) rfl)⟩, List.forall_mem_cons.2 ⟨⟨_, HX.g_glo X G (c.x.fact 88 (f := HX.fF (.glo "NoHand")) rfl), HX.kit_ok (c.x.fact 141 (f := HX.kitB "BadSigns" "NoHand" false) rfl)⟩, List.forall_mem_cons.2 ⟨⟨_, HX.g_glo X G (c.x.fact 90 (f := HX.fF (.glo "BadName")) rfl), HX.kit_ok (c.x.fact 142 (f := HX.kitB "BadSigns" "BadName" false) rfl)⟩, List.forall_mem_cons.2 ⟨⟨_, HX.g_glo X G (c.x.fact 92 (f := HX.fF (.glo "TooMany")) rfl), HX.kit_ok (c.x.fact 143 (f := HX.kitB "BadSigns" "TooMany" false) rfl)⟩, List.forall_mem_cons.2 ⟨⟨_, HX.g_glo X G (c.x.fact 94 (f := HX.fF (.glo "NoEntry")) rfl), HX.kit_ok (c.x.fact 144 (f := HX.kitB "BadSigns" "NoEntry" false) rfl)⟩, List.forall_mem_cons.2 ⟨⟨_, HX.g_glo X G (c.x.fact 79 (f := HX.fF (.glo "NoPlace")) rfl), HX.kit_ok (c.x.fact 145 (f := HX.kitB "BadSigns" "NoPlace" false) rfl)⟩, List.forall_mem_cons.2 ⟨⟨_, HX.g_glo X G (c.x.fact 97 (f := HX.fF (.glo "SelfTie")) rfl), HX.kit_ok (c.x.fact 146 (f := HX.kitB "BadSigns" "SelfTie" false) rfl)⟩, List.forall_mem_cons.2 ⟨⟨_, HX.g_glo X G (c.x.fact 99 (f := HX.fF (.glo "Repeated")) rfl), HX.kit_ok (c.x.fact 147 (f := HX.kitB "BadSigns" "Repeated" false) rfl)⟩, List.forall_mem_cons.2 ⟨⟨_, HX.g_glo X G (c.x.fact 101 (f := HX.fF (.glo "BadSigns")) rfl), HX.kit_ok (c.x.fact 148 (f := HX.kitB "BadSigns" "BadSigns" true) rfl)⟩, List.forall_mem_cons.2 ⟨⟨_, HX.g_glo X G (c.x.fact 103 (f := HX.fF (.glo "BadText")) rfl), HX.kit_ok (c.x.fact 149 (f := HX.kitB "BadSigns" "BadText" false) rfl)⟩, List.forall_mem_cons.2 ⟨⟨_, HX.g_glo X G (c.x.fact 105 (f := HX.fF (.glo "BadTree")) rfl), HX.kit_ok (c.x.fact 150 (f := HX.kitB "BadSigns" "BadTree" false) rfl)⟩, List.forall_mem_cons.2 ⟨⟨_, HX.g_glo X G (c.x.fact 107 (f := HX.fF (.glo "BadMap")) rfl), HX.kit_ok (c.x.fact 151 (f := HX.kitB "BadSigns" "BadMap" false) rfl)⟩, List.forall_mem_cons.2 ⟨⟨_, HX.g_glo X G (c.x.fact 109 (f := HX.fF (.glo "NotRight")) rfl), HX.kit_ok (c.x.fact 152 (f := HX.kitB "BadSigns" "NotRight" false) rfl)⟩, List.forall_mem_cons.2 ⟨⟨_, HX.g_glo X G (c.x.fact 111 (f := HX.fF (.glo "NoStone")) rfl), HX.kit_ok (c.x.fact 153 (f := HX.kitB "BadSigns" "NoStone" false) rfl)⟩, List.forall_mem_cons.2 ⟨⟨_, HX.g_glo X G (c.x.fact 113 (f := HX.fF (.glo "Stands")) rfl), HX.kit_ok (c.x.fact 154 (f := HX.kitB "BadSigns" "Stands" false) rfl)⟩, List.forall_mem_cons.2 ⟨⟨_, HX.g_glo X G (c.x.fact 115 (f := HX.fF (.glo "Falls")) rfl), HX.kit_ok (c.x.fact 155 (f := HX.kitB "BadSigns" "Falls" false) rfl)⟩, List.forall_mem_cons.2 ⟨⟨_, HX.g_glo X G (c.x.fact 117 (f := HX.fF (.glo "GameOver")) rfl), HX.kit_ok (c.x.fact 156 (f := HX.kitB "BadSigns" "GameOver" false) rfl)⟩, List.forall_mem_cons.2 ⟨⟨_, HX.g_glo X G (c.x.fact 119 (f := HX.fF (.glo "Occupied")) rfl), HX.kit_ok (c.x.fact 157 (f := HX.kitB "BadSigns" "Occupied" false) rfl)⟩, List.forall_mem_cons.2 ⟨⟨_, HX.g_glo X G (c.x.fact 121 (f := HX.fF (.glo "SelfTaking")) rfl), HX.kit_ok (c.x.fact 158 (f := HX.kitB "BadSigns" "SelfTaking" false) rfl)⟩, List.forall_mem_cons.2 ⟨⟨_, HX.g_glo X G (c.x.fact 123 (f := HX.fF (.glo "ComesBack")) rfl), HX.kit_ok (c.x.fact 159 (f := HX.kitB "BadSigns" "ComesBack" false) rfl)⟩, List.forall_mem_cons.2 ⟨⟨_, HX.g_glo X G (c.x.fact 125 (f := HX.fF (.glo "BadDeed")) rfl), HX.kit_ok (c.x.fact 160 (f := HX.kitB "BadSigns" "BadDeed" false) rfl)⟩, List.forall_mem_cons.2 ⟨⟨_, HX.g_glo X G (c.x.fact 127 (f := HX.fF (.glo "NothingDone")) rfl), HX.kit_ok (c.x.fact 161 (f := HX.kitB "BadSigns" "NothingDone" false) rfl)⟩, List.forall_mem_cons.2 ⟨⟨_, HX.g_glo X G (c.x.fact 129 (f := HX.fF (.glo "BadRow")) rfl), HX.kit_ok (c.x.fact 162 (f := HX.kitB "BadSigns" "BadRow" false) rfl)⟩, fun _ h => nomatch h⟩⟩⟩⟩⟩⟩⟩⟩⟩⟩⟩⟩⟩⟩⟩⟩⟩⟩⟩⟩⟩⟩⟩⟩
  have kit_BadSigns_ValueError := HX.kitV_ok (c.x.fact 163 (f := HX.kitV "BadSigns" "ValueError" true) rfl)
  have g_Web := HX.g_glo X G (c.x.fact 164 (f := HX.fF (.glo "Web")) rfl)
  have CL_Web := HX.g_cls (c.x.fact 165 (f := HX.fF (.cls "Web")) rfl)
  have MK_Web := HX.g_mkr (c.x.fact 166 (f := HX.fF (.mkr "Web")) rfl)
  have no_Web_places := HX.g_noat (c.x.fact 167 (f := HX.fF (.noat "Web" "_places")) rfl)
  have no_Web_ties := HX.g_noat (c.x.fact 168 (f := HX.fF (.noat "Web" "_ties")) rfl)
  have no_Web_near := HX.g_noat (c.x.fact 169 (f := HX.fF (.noat "Web" "_near")) rfl)
  have SM_mWeb_len : Sm K (He.ga K "Web") "__len__" (He.ma K (He.ga K "Web") "__len__") := have z := HX.g_meth (c.x.fact 170 (f := HX.fF (.meth "Web" "__len__")) rfl); ⟨z.1, z.2⟩
  have SM_mWeb_iter : Sm K (He.ga K "Web") "__iter__" (He.ma K (He.ga K "Web") "__iter__") := have z := HX.g_meth (c.x.fact 171 (f := HX.fF (.meth "Web" "__iter__")) rfl); ⟨z.1, z.2⟩
  have SM_mWeb_eq : Sm K (He.ga K "Web") "__eq__" (He.ma K (He.ga K "Web") "__eq__") := have z := HX.g_meth (c.x.fact 172 (f := HX.fF (.meth "Web" "__eq__")) rfl); ⟨z.1, z.2⟩
  have IC_Web : IsaC K (He.ga K "Web") := have z := HX.isa_ok (c.x.fact 173 (f := HX.isaB "Web") rfl); ⟨CL_Web, z.ha, z.hn, z.ht, z.hm⟩
  have g_Board := HX.g_glo X G (c.x.fact 174 (f := HX.fF (.glo "Board")) rfl)
  have CL_Board := HX.g_cls (c.x.fact 175 (f := HX.fF (.cls "Board")) rfl)
  have MK_Board := HX.g_mkr (c.x.fact 176 (f := HX.fF (.mkr "Board")) rfl)
  have no_Board_web := HX.g_noat (c.x.fact 177 (f := HX.fF (.noat "Board" "_web")) rfl)
  have no_Board_signs := HX.g_noat (c.x.fact 178 (f := HX.fF (.noat "Board" "_signs")) rfl)
  have no_Board_sign_at := HX.g_noat (c.x.fact 179 (f := HX.fF (.noat "Board" "_sign_at")) rfl)
  have ME_mBoard_sign := HX.g_meth (c.x.fact 180 (f := HX.fF (.meth "Board" "sign")) rfl)
  have ME_mBoard_handat := HX.g_meth (c.x.fact 181 (f := HX.fF (.meth "Board" "hand_at")) rfl)
  have ME_mBoard_put := HX.g_meth (c.x.fact 182 (f := HX.fF (.meth "Board" "put")) rfl)
  have ME_mBoard_bearing := HX.g_meth (c.x.fact 183 (f := HX.fF (.meth "Board" "bearing")) rfl)
  have SM_mBoard_eq : Sm K (He.ga K "Board") "__eq__" (He.ma K (He.ga K "Board") "__eq__") := have z := HX.g_meth (c.x.fact 184 (f := HX.fF (.meth "Board" "__eq__")) rfl); ⟨z.1, z.2⟩
  have IC_Board : IsaC K (He.ga K "Board") := have z := HX.isa_ok (c.x.fact 185 (f := HX.isaB "Board") rfl); ⟨CL_Board, z.ha, z.hn, z.ht, z.hm⟩
  have sysH := id (c.x.fact 186 (f := (fun K => !(He.ga K "HAND_OF_SIGN" == sysModules))) rfl)
  have dotH := He.eqO_ok (c.x.fact 187 (f := (fun K => He.eqO (PySem.W.nsIn K (He.ga K "HAND_OF_SIGN") (Str.ofString ".")) (some none))) rfl)
  have kit_S := HX.kitT_ok (c.x.fact 188 (f := HX.kitT "str" "Board" false) rfl)
  have kit_I := HX.kitT_ok (c.x.fact 189 (f := HX.kitT "int" "Board" false) rfl)
  have kit_W := HX.kit_ok (c.x.fact 190 (f := HX.kitB "Web" "Board" false) rfl)
  have fWW := id (c.x.fact 191 (f := (fun K => PySem.W.notFirst K (He.ga K "Web") (.ref (He.ga K "Web")))) rfl)
  have fBB := id (c.x.fact 192 (f := (fun K => PySem.W.notFirst K (He.ga K "Board") (.ref (He.ga K "Board")))) rfl)
  have na_Web := He.eqO_ok (c.x.fact 193 (f := (fun K => He.eqO (PySem.W.findIn K (.ref (He.ga K "Web")) "__ne__") (some (some (.builtin "object.__ne__"))))) rfl)
  have nb_Web := of_decide_eq_true (c.x.fact 194 (f := (fun K => decide (PySem.W.subIn K (.ref (He.ga K "Web")) (.type "object") = some true))) rfl)
  have ns_Web := id (c.x.fact 195 (f := (fun K => PySem.W.notFirst K (He.ga K "Web") (.type "str"))) rfl)
  have ni_Web := id (c.x.fact 196 (f := (fun K => PySem.W.notFirst K (He.ga K "Web") (.type "int"))) rfl)
  have na_Board := He.eqO_ok (c.x.fact 197 (f := (fun K => He.eqO (PySem.W.findIn K (.ref (He.ga K "Board")) "__ne__") (some (some (.builtin "object.__ne__"))))) rfl)
  have nb_Board := of_decide_eq_true (c.x.fact 198 (f := (fun K => decide (PySem.W.subIn K (.ref (He.ga K "Board")) (.type "object") = some true))) rfl)
  have ns_Board := id (c.x.fact 199 (f := (fun K => PySem.W.notFirst K (He.ga K "Board") (.type "str"))) rfl)
  have ni_Board := id (c.x.fact 200 (f := (fun K => PySem.W.notFirst K (He.ga K "Board") (.type "int"))) rfl)
  have GI_NoPlace := ok_iNoPlace (P := l.prog) (w := w) (mg := mg) (base := base) oex_NoPlace no_NoPlace_place F_iNoPlace
  have GI_BadSigns := ok_iBadSigns (P := l.prog) (w := w) (mg := mg) (base := base) oex_BadSigns no_BadSigns_at F_iBadSigns
  have G_kinds_NoPlace := ok_kinds (P := l.prog) (w := w) (base := base) B B_ValueError D_kinds XC_NoPlace kn_NoPlace kit_NoPlace_ValueError
  have G_kinds_BadSigns := ok_kinds (P := l.prog) (w := w) (base := base) B B_ValueError D_kinds XC_BadSigns kn_BadSigns kit_BadSigns_ValueError
  have G_take := ok_take (P := l.prog) (w := w) (base := base) B D_take D_mixed
  have G_pick := ok_pick (P := l.prog) (w := w) (base := base) B D_pick D_take G_take
  have G_pickL := ok_pickL (P := l.prog) (w := w) (base := base) B D_pick D_take G_take
  have G_chance := ok_chance (P := l.prog) (w := w) (base := base) B D_chance D_take G_take
  have G_number := ok_number (P := l.prog) (w := w) (base := base) B D_number D_take D_chance G_take G_chance
  have G_name := ok_name (P := l.prog) (w := w) (base := base) B D_name D_number D_pick G_number G_pick
  have G_shuffled := ok_shuffled (P := l.prog) (w := w) (base := base) B D_shuffled D_take G_take
  have G_size := ok_size (P := l.prog) (w := w) (base := base) B D_size D_take G_take
  have G_unlike := ok_unlike (P := l.prog) (w := w) (base := base) B D_unlike
  have G_names := ok_names (P := l.prog) (w := w) (base := base) B D_names D_take D_name D_pick D_unlike D_shuffled G_take G_name G_pick G_unlike G_shuffled
  have G_shape := ok_shape (P := l.prog) (w := w) (base := base) B D_shape D_take D_chance D_shuffled G_take G_chance G_shuffled
  have G_webof := ok_webof (P := l.prog) (w := w) (base := base) B B_sorted D_webof
  have G_websized := ok_websized (P := l.prog) (w := w) (base := base) B D_websized D_names D_shape D_webof G_names G_shape G_webof
  have G_stranger := ok_stranger (P := l.prog) (w := w) (base := base) B D_stranger D_name D_take D_pick D_unlike G_name G_take G_pick G_pickL G_unlike
  have G_badname := ok_badname (P := l.prog) (w := w) (base := base) B D_badname D_name D_take D_pick G_name G_take G_pick
  have G_odd := ok_odd (P := l.prog) (w := w) (base := base) B D_odd D_take D_stranger D_badname D_pick G_take G_stranger G_badname G_pickL
  have G_isname := ok_isname2 (P := l.prog) (w := w) (base := base) B D_isname MG_LONGEST_NAME MG_LETTERS MG_DIGITS
  have G_ord := ok_ord (P := l.prog) (w := w) (base := base) D_orderedpair
  have G_ckp := ok_ckp (P := l.prog) (w := w) (base := base) B D_checkplaces D_isname G_isname
  have G_ckt := ok_ckt (P := l.prog) (w := w) (base := base) B D_checkties MG_MOST_PLACES MG_MOST_TIES
  have G_ckr := ok_ckr (P := l.prog) (w := w) (base := base) B B_set D_checkrepeats D_orderedpair G_ord
  have G_near := ok_near (P := l.prog) (w := w) (base := base) B B_sorted D_neartable
  have G_iWeb := ok_iWeb (P := l.prog) (w := w) (base := base) B B_sorted F_iWeb CL_Web no_Web_places no_Web_ties no_Web_near D_checkplaces D_checkties D_checkrepeats D_orderedpair D_neartable G_ckp G_ckt G_ckr G_ord G_near
  have G_due := ok_due (P := l.prog) (w := w) (base := base) D_due
  have G_like := like_all (P := l.prog) (w := w) (base := base) B D_like 5
  have G_signs := ok_signs (P := l.prog) (w := w) (base := base) B D_signs D_take D_pick G_take G_pick
  have G_Wpl := ok_Wpl (P := l.prog) (w := w) (base := base) B F_mWeb_places CL_Web no_Web_places
  have G_Wti := ok_Wti (P := l.prog) (w := w) (base := base) B F_mWeb_ties CL_Web no_Web_ties
  have G_Wln := ok_Wln (P := l.prog) (w := w) (base := base) B F_mWeb_len CL_Web no_Web_places
  have G_Wit := ok_Wit (P := l.prog) (w := w) (base := base) B B_iter F_mWeb_iter CL_Web no_Web_places
  have G_Bweb := ok_Bweb (c_Web := (He.ga K "Web")) (mg := mg) (P := l.prog) (w := w) (base := base) F_mBoard_web CL_Board no_Board_web
  have G_Bsg := ok_Bsg (c_Web := (He.ga K "Web")) (mg := mg) (P := l.prog) (w := w) (base := base) F_mBoard_signs CL_Board no_Board_signs
  have G_Bbe := ok_Bbe (P := l.prog) (w := w) (base := base) F_mBoard_bearing CL_Board no_Board_web no_Board_sign_at SM_mWeb_iter G_Wit B_mWeb_iter
  have G_Bsi := ok_Bsign (c_Web := (He.ga K "Web")) (P := l.prog) (w := w) (base := base) X_NoPlace BI_NoPlace GI_NoPlace F_mBoard_sign CL_Board no_Board_sign_at
  have NE_Web : NeC K (He.ga K "Web") := ⟨na_Web, nb_Web, ns_Web, ni_Web⟩
  have NE_Board : NeC K (He.ga K "Board") := ⟨na_Board, nb_Board, ns_Board, ni_Board⟩
  obtain ⟨es_H, n_H, kd_H⟩ := c.tab 0 (t := ("HAND_OF_SIGN", ["d", "l"]))
  have WR_H := writ_of kd_H sysH
  have SA_H := says_hands KD_HAND_OF_SIGN_0 KD_HAND_OF_SIGN_1 dotH
  have G_sot := ok_sot (P := l.prog) (w := w) (base := base) B D_signsoftexts
  have G_text := ok_text (P := l.prog) (w := w) (base := base) B D_text D_take D_size D_pick D_signsoftexts G_take G_size G_pick G_sot
  have G_Weq := ok_Weq (P := l.prog) (w := w) (base := base) B F_mWeb_eq IC_Web CL_Web no_Web_places no_Web_ties g_Web
  have G_Beq := ok_Beq (P := l.prog) (w := w) (base := base) B F_mBoard_eq IC_Board IC_Web CL_Board no_Board_web no_Board_signs g_Board SM_mWeb_eq G_Weq B_mWeb_eq NE_Web kit_S kit_I kit_W fWW
  have G_cks := ok_cks (P := l.prog) (w := w) (base := base) B B_enumerate D_checksigns MG_SIGNS TU_SIGNS X_BadSigns BI_BadSigns GI_BadSigns
  have G_iBoard := ok_iBoard (CS := (He.ga K "BadSigns")) (P := l.prog) (w := w) (base := base) B B_zip F_iBoard CL_Board no_Board_web no_Board_signs no_Board_sign_at D_checksigns G_cks SM_mWeb_len G_Wln B_mWeb_len SM_mWeb_iter G_Wit B_mWeb_iter
  have G_hof := ok_handof (P := l.prog) (w := w) (base := base) D_handof MG_HAND_OF_SIGN WR_H SA_H
  have G_Bha := ok_Bhandat (P := l.prog) (w := w) (base := base) F_mBoard_handat CL_Board D_handof G_hof ME_mBoard_sign B_mBoard_sign G_Bsi
  have G_Bpu := ok_Bput (P := l.prog) (w := w) (base := base) X_NoPlace BI_NoPlace GI_NoPlace X_BadSigns BI_BadSigns GI_BadSigns F_mBoard_put CL_Board no_Board_web no_Board_sign_at MG_SIGNS TU_SIGNS SM_mWeb_iter G_Wit B_mWeb_iter g_Board MK_Board G_iBoard B_iBoard
  have G_emp := ok_empty (P := l.prog) (w := w) (base := base) B D_emptyboard MG_FREE SM_mWeb_len G_Wln B_mWeb_len g_Board MK_Board G_iBoard B_iBoard
  have G_dep := ok_departs (P := l.prog) (w := w) (base := base) B D_departs
  have G_bsg := ok_badsigns (P := l.prog) (w := w) (base := base) B D_badsigns D_take D_pick D_signs G_take G_pick G_pickL G_signs
  have G_ts := ok_toldsign (P := l.prog) (w := w) (base := base) D_toldsign D_kinds X_NoPlace XF_NoPlace no_NoPlace_place me_NoPlace CL_Board ME_mBoard_sign B_mBoard_sign G_Bsi G_kinds_NoPlace
  have G_th := ok_toldhand (P := l.prog) (w := w) (base := base) D_toldhand D_kinds X_NoPlace XF_NoPlace no_NoPlace_place me_NoPlace CL_Board ME_mBoard_handat B_mBoard_handat G_Bha G_kinds_NoPlace
  have G_tb := ok_toldboard (P := l.prog) (w := w) (base := base) D_toldboard D_kinds X_BadSigns XF_BadSigns no_BadSigns_at me_BadSigns g_Board MK_Board G_iBoard B_iBoard G_kinds_BadSigns
  have G_tp := ok_toldput (P := l.prog) (w := w) (base := base) D_toldput D_kinds X_NoPlace XF_NoPlace no_NoPlace_place me_NoPlace X_BadSigns XF_BadSigns no_BadSigns_at me_BadSigns me_BadSigns_NoPlace CL_Board ME_mBoard_put B_mBoard_put G_Bpu G_kinds_NoPlace G_kinds_BadSigns
  have G_shw := ok_shows (P := l.prog) (w := w) (base := base) B D_shows D_like G_like D_toldsign G_ts D_toldhand G_th CL_Web CL_Board PR_mBoard_signs G_Bsg B_mBoard_signs PR_mBoard_web G_Bweb B_mBoard_web PR_mWeb_places G_Wpl B_mWeb_places PR_mWeb_ties G_Wti B_mWeb_ties ME_mBoard_bearing G_Bbe B_mBoard_bearing
  have G_og := ok_oddgood (P := l.prog) (w := w) (base := base) B D_oddgood D_like G_like D_due G_due D_toldsign G_ts D_toldhand G_th CL_Board ME_mBoard_bearing G_Bbe B_mBoard_bearing
  have G_pg := ok_putgood (P := l.prog) (w := w) (base := base) B D_putgood D_like G_like D_due G_due D_toldput G_tp D_shows G_shw SM_mBoard_eq G_Beq B_mBoard_eq NE_Board fBB
  have G_store := ok_store (P := l.prog) (w := w) (base := base) B D_store
  exact ok_law B D_law D_store G_store D_websized G_websized D_size G_size D_signs G_signs D_toldboard G_tb D_badsigns G_bsg D_text G_text D_departs G_dep D_due G_due D_like G_like D_shows G_shw D_emptyboard G_emp D_odd G_odd D_pick G_pick G_pickL D_oddgood G_og D_putgood G_pg g_Web MK_Web G_iWeb B_iWeb
end K01
namespace K01
open PySem PySem.W PySem.Calls PyProof.Rows
set_option maxHeartbeats 0 in
theorem he_call : WalkO QQ otherNames (XL QQ []) (HX.hookY glL clL plL faL fnL prL tsL).says RR.toRowW DD [] fun f vs => PySem.call f vs := by
  refine L2.walk_ofE (l := PySem.Challenge.rw_tworooms_k07_boards_are_made) (n := 63) (k := 12) (x := "script") (CX := L2.CX0) rfl (by decide) he_nodef ⟨rfl, by decide, by decide⟩ ?F (fun _ _ _ _ z => z)
  intro w mg fa h Y G hmg0
  obtain ⟨K, KX, c⟩ := Y
  have hmg : mg ("law" : PySem.Str) = some (.ref fa) := by
    rw [← he_name]
    exact hmg0
  obtain ⟨fd, hb, hm, hF⟩ := all_mk (l := PySem.Challenge.rw_tworooms_k07_boards_are_made) (w := w) (base := h) KX G c
  have ea : fa = He.ga K "law" := by
    have z := hmg.symm.trans hm
    injection z with z
    injection z
  subst ea
  exact ⟨K, fd, spLaw K, KX, hb, fun H a ns hl _ hS => ⟨a, ns, rfl, hS, hl, fun _ => rfl⟩, fun base _ _ => hF base⟩
end K01
open PySem PySem.W PySem.Calls PyProof.Rows
set_option maxHeartbeats 0 in
theorem PySem.Challenge.cw_tworooms_k07_boards_are_made_holds : PySem.Challenge.rw_tworooms_k07_boards_are_made.Holds := by
  w_on; o_law
  refine HandSHeadRun.head_any (r := K01.RR) (q := K01.QQ) (H := HX.hookY K01.glL K01.clL K01.plL K01.faL K01.fnL K01.prL K01.tsL) (ob := K01.obL) (M := 20000) (loose := K01.otherNames) (d := K01.DD) (kwd := []) K01.ob_eq K01.he_open K01.he_fence K01.run_eq K01.he_def K01.he_the K01.he_kw K01.he_wr K01.he_said K01.he_ok K01.he_bare ?hw K01.he_call
  case hw => w_witness2
