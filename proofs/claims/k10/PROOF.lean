import PyProof.Rows.All
import Wide.All
import OpenK.AllK
import Wide.FinOn
import HandS.ForMost
import HandS.IsInst
import HandS.WideBits
import HandS.Wide
import HandS.Zip
import HandS.Style
import HandS.TupAny
import KE.KTupSum
import PyProof.ReprRoads
import PyProof.LongRange
import HandS.Rev
import KE.DataMinMax
import HandS.Walk
import HandS.NoneIn
import PyProof.Rows.IntBool
import PyProof.AutoIntG7
import PySem.Challenge.RW_honeyturns_k10_the_last_one_below
set_option Elab.async false
set_option linter.all false
set_option maxRecDepth 100000
set_option maxHeartbeats 2000000
namespace Hz
open PySem PySem.Spec PyProof.Rows L2

/-! ### rules that the layer lacks -/
section
variable {X : Cx} {CX : CXT} {k : Nat} {f : Addr} {fd : FuncData} {ps ks : List Str} {sp : Sp} {E : XK} {x : Str} {p pos : Pos} {kws : List Keyword} {tk : TA}
variable {g : List Value → List Value → List Value} {gV : List V → List V → List V}
/-- f(k = v, ..), all by names -/
theorem pe_callK0 (F : FnOk X.prog X.w X.K X.mg X.base CX k f fd ps sp) (hr : Room k X.A) (hg : Gl X x) (hm : X.mg x = some (.ref f)) (hk : PySem.W.keepIn X.K (.ref f) = true) (hb : KBinds X.K fd ps ks g gV) (hx : Passes CX X E)
    (hkw : PK X kws tk) (hall : (backToKw pos (keywordEach kws X.env)).all (·.1.isSome) = true := by rfl) (hks : (backToKw pos (keywordEach kws X.env)).filterMap (·.1) = ks := by rfl)
    (hdb : (x == ("__debug__" : Str)) = false := by decide)
    (hpl : ((backTo pos (starEach [] X.env)).any (·.1) || (backToKw pos (keywordEach kws X.env)).any (·.1.isNone)) = false := by rfl) :
    PE X (.Call (.Name x p) [] kws pos) (tCallK sp gV E tNil tk) := by
  refine ⟨fun pins s σ H Q I h => ?_⟩
  refine wpAny_Call_Name_kw (ld_glob I hg hm ?_ hdb)
  refine PySem.W.callWith_KW0 (h₀ := X.base) I.ok.mod.kin hk hall ?_ hpl
  refine thn (hkw.run pos pins s σ H _ I h) fun ws s2 ⟨zs, H2, I2, rz, q2⟩ => ⟨I2.kIn, ?_⟩
  rw [hks]
  exact run_fnk (us := []) (vs := []) F hr hb hx I2 .nil rz q2
end

/-! ### what may be walked: a list or a tuple -/
def Sq (K : PySem.W.Frag) (H : Hp) (a : Addr) (xs : List V) : Prop := SqL K H a xs ∨ SqT K H a xs
section
variable {X : Cx} {tg : Expr}
theorem pi_or {e : Expr} {w1 w2 : TI} (h1 : PI X tg e w1) (h2 : PI X tg e w2) : PI X tg e (fun σ H R => w1 σ H R ∨ w2 σ H R) :=
  ⟨fun pins s σ H R I h => h.elim (h1.run pins s σ H R I) (h2.run pins s σ H R I)⟩
theorem pi_seq {l : Expr} {tl : TE} (hl : PE X l tl) : PI X tg l (fun σ H R => iList X.K tl σ H R ∨ iTup X.K tl σ H R) := pi_or (pi_list hl) (pi_tup hl)
def rSlB (K : PySem.W.Frag) : V → Option Int → Option Int → Hp → VK → Prop := fun x lo hi H Q => rSlL K x lo hi H Q ∨ rSlA K x lo hi H Q
theorem sl_seq : SlR X (rSlB X.K) := sl_list.or sl_tupA
theorem ix_any : IxR X (rIx X.K) := ix_seq
theorem sum_tup {prog : Program} {w : World} {A : Around} {E : Value → Shared → Prop} {s : Shared} {t : Addr} {its : List Value} {ns : List Int} {Q : Value → Shared → Prop}
    (hh : A.handled = none) (hl : s.heap.IsTuple t its.toArray) (hi : IntsAre its ns)
    (h : ∀ h' tk t', (∀ b o, s.heap.get? b = some o → h'.get? b = some o) → Q (.int ns.sum t') { s with heap := h', toks := tk }) : wpAny (model prog w) A (call (.builtin "sum") [.ref t]) Q E s := by
  obtain ⟨xs, e⟩ := hi.allInts.items
  have hn : numsOf (intItems xs).toList = ns := by rw [← e]; exact hi.numsOf
  rw [nums_intItems] at hn
  rw [e] at hl
  refine PySem.W.ktm_sumG hh hl fun h' tk t' hk => ?_
  have := h h' tk t' hk
  rw [preSum_eq, List.take_of_length_le (by simp), hn]; exact this
def rSumA (K : PySem.W.Frag) : List V → Hp → VK → Prop := fun vs H Q => ∃ (a : Addr) (ns : List Int), vs = [V.ref a] ∧ Sq K H a (ns.map V.int) ∧ Q (.int ns.sum) H
theorem cr_sumA (hc : X.calm = true) : CallR X (.builtin "sum") (rSumA X.K) := by
  intro pins s σ H vs us Q I r h
  obtain ⟨a, ns, rfl, hs, q⟩ := h
  rcases hs with hs | hs
  · exact cr_sum hc pins s σ H [V.ref a] us Q I r ⟨a, ns, rfl, hs, q⟩
  · obtain ⟨its, rv, ht, _⟩ := I.tuple hs
    rw [Vals.ref1 r]
    exact sum_tup (I.ok.hd hc) ht rv.ints fun h' tk t' hk => ⟨.int _, H, I.kept hk, ⟨_, rfl⟩, q⟩
end
end Hz
namespace Hz
open PySem PySem.Spec PyProof.Rows L2

/-! ### heaps but for some addresses -/
def wo (B : List Addr) (H : Hp) : Hp := fun a => if a ∈ B then none else H a
/-- all that was tracked outside B is as it was; what was tracked is -/
def Ex (B : List Addr) (H H' : Hp) : Prop := (∀ a o, a ∉ B → H a = some o → H' a = some o) ∧ ∀ a, H' a = none → H a = none
theorem Ex.get {B : List Addr} {H H' : Hp} (e : Ex B H H') {a : Addr} {o : HO} (n : a ∉ B) (h : H a = some o) : H' a = some o := e.1 a o n h
theorem Ex.free {B : List Addr} {H H' : Hp} {p : Addr} (e : Ex B H H') (h : H' p = none) : H p = none := e.2 p h
theorem Ex.refl (B : List Addr) (H : Hp) : Ex B H H := ⟨fun _ _ _ h => h, fun _ h => h⟩
theorem Ex.trans {B : List Addr} {H H1 H2 : Hp} (a : Ex B H H1) (b : Ex B H1 H2) : Ex B H H2 := ⟨fun x o n h => b.1 x o n (a.1 x o n h), fun x h => a.2 x (b.2 x h)⟩
theorem upd_free {H : Hp} {p a : Addr} {o : HO} (h : upd H p o a = none) : H a = none := by
  by_cases z : a = p
  · subst z; rw [upd_same] at h; cases h
  · rw [upd_ne z] at h; exact h
theorem Ex.new {B : List Addr} {H : Hp} {p : Addr} {o : HO} (h : H p = none) : Ex B H (upd H p o) := ⟨fun a u _ e => by
  rw [upd_ne (ne_of_none e h)]
  exact e, fun _ => upd_free⟩
theorem Ex.mut {B : List Addr} {H : Hp} {p : Addr} {o : HO} (h : p ∈ B) : Ex B H (upd H p o) := ⟨fun a u n e => by
  rw [upd_ne (by intro z; subst z; exact n h)]
  exact e, fun _ => upd_free⟩
/-- a new object that changes afterwards -/
theorem Ex.mutNew {B : List Addr} {H H1 : Hp} {p : Addr} {o : HO} (h : H p = none) (e1 : Ex B H H1) : Ex B H (upd H1 p o) := ⟨fun a u n e => by
  rw [upd_ne (ne_of_none e h)]
  exact e1.1 a u n e, fun a q => e1.2 a (upd_free q)⟩
theorem Ex.mutNew' {B : List Addr} {H H1 : Hp} {p : Addr} {o : HO} (e1 : Ex B H H1) (h : H p = none) : Ex B H (upd H1 p o) := Ex.mutNew h e1
theorem Ex.sub {B C : List Addr} {H H' : Hp} (h : ∀ a, a ∈ B → a ∈ C) (e : Ex B H H') : Ex C H H' := ⟨fun a o n q => e.1 a o (fun z => n (h a z)) q, e.2⟩
/-- what is new at the start need not be kept -/
theorem Ex.drop {B : List Addr} {H H' : Hp} {p : Addr} (h : H p = none) (e : Ex (p :: B) H H') : Ex B H H' := ⟨fun a o n q =>
  e.1 a o (fun z => by
    rcases List.mem_cons.mp z with z | z
    · rw [z, h] at q; cases q
    · exact n z) q, e.2⟩
theorem Ex.nil {B : List Addr} {H H' : Hp} (e : Ex [] H H') : Ex B H H' := e.sub fun _ h => by cases h
theorem wo_some {B : List Addr} {H : Hp} {a : Addr} {o : HO} (h : wo B H a = some o) : a ∉ B ∧ H a = some o := by
  unfold wo at h
  by_cases z : a ∈ B
  · rw [if_pos z] at h; cases h
  · rw [if_neg z] at h; exact ⟨z, h⟩
theorem wo_of {B : List Addr} {H : Hp} {a : Addr} {o : HO} (n : a ∉ B) (h : H a = some o) : wo B H a = some o := by
  unfold wo
  rw [if_neg n]; exact h
theorem Ex.wo {B : List Addr} {H H' : Hp} (e : Ex B H H') : ∀ a o, Hz.wo B H a = some o → Hz.wo B H' a = some o := fun a o h => by
  obtain ⟨n, q⟩ := wo_some h
  exact wo_of n (e.1 a o n q)
theorem wo_nil (H : Hp) : wo [] H = H := by
  funext a
  unfold wo
  simp
/-- a read of a part is a read of the whole -/
def Le (H H' : Hp) : Prop := ∀ a o, H a = some o → H' a = some o
theorem wo_le (B : List Addr) (H : Hp) : Le (wo B H) H := fun _ _ h => (wo_some h).2
theorem wo_le2 {B C : List Addr} {H : Hp} (h : ∀ a, a ∈ B → a ∈ C) : Le (wo C H) (wo B H) := fun _ _ q => by
  obtain ⟨n, q⟩ := wo_some q
  exact wo_of (fun z => n (h _ z)) q
theorem Ex.le {B : List Addr} {H H' : Hp} (e : Ex B H H') : Le (Hz.wo B H) (Hz.wo B H') := e.wo
section
variable {K : PySem.W.Frag} {H H' : Hp} {a : Addr} {xs : List V}
theorem le_rd {u : HO} (e : Le H H') (h : Rd H a u) : Rd H' a u := by
  rcases h with h | ⟨o, h⟩
  · exact .inl (e _ _ h)
  · exact .inr ⟨o, e _ _ h⟩
theorem le_l (e : Le H H') (h : SqL K H a xs) : SqL K H' a xs := by
  rcases h with h | h
  · exact .inl (le_rd e h)
  · exact .inr h
theorem le_t (e : Le H H') (h : SqT K H a xs) : SqT K H' a xs := by
  rcases h with h | h
  · exact .inl (le_rd e h)
  · exact .inr h
theorem le_s (e : Le H H') (h : Sq K H a xs) : Sq K H' a xs := by
  rcases h with h | h
  · exact .inl (le_l e h)
  · exact .inr (le_t e h)
end
mutual
theorem dp_le {K : PySem.W.Frag} {H H' : Hp} (e : Le H H') : ∀ (d : PyData) (v : V), Dp K H v d → Dp K H' v d
  | .none, _, h => by cases h; exact .non
  | .bool b, _, h => by cases h; exact .bl b
  | .int i, _, h => by cases h; exact .int i
  | .str x, _, h => by cases h; exact .str x
  | .list ds, _, h => by cases h with | lst h1 h2 => exact .lst (le_l e h1) (dpa_le e ds _ h2)
  | .tuple ds, _, h => by cases h with | tup h1 h2 => exact .tup (le_t e h1) (dpa_le e ds _ h2)
  | .dict _, _, h => by cases h
theorem dpa_le {K : PySem.W.Frag} {H H' : Hp} (e : Le H H') : ∀ (ds : List PyData) (vs : List V), DpAll K H vs ds → DpAll K H' vs ds
  | [], _, h => by cases h; exact .nil
  | d :: ds, _, h => by cases h with | cons h1 h2 => exact .cons (dp_le e d _ h1) (dpa_le e ds _ h2)
end

/-! ### steps of a reading -/
section
variable {K : PySem.W.Frag} {H : Hp} {a : Addr} {xs : List V} {i : Int} {v : V} {Q : VK}
theorem z_ix (h : Sq K H a xs) (hv : atI xs i = some v) (q : Q v H) : rIx K (.ref a) (.int i) H Q := by
  rcases h with h | h
  · exact .inl ⟨a, xs, i, v, rfl, rfl, h, hv, q⟩
  · exact .inr (.inl ⟨a, xs, i, v, rfl, rfl, h, hv, q⟩)
theorem z_ixL (h : H a = some (.lst xs)) (hv : atI xs i = some v) (q : Q v H) : rIx K (.ref a) (.int i) H Q := z_ix (.inl (SqL.of h)) hv q
end

/-! ### the box of the laws: three numbers in a list, the third counts -/
def Bx (b : Addr) (n : Nat) (H : Hp) : Prop := ∃ x y c : Int, H b = some (.lst [.int x, .int y, .int c]) ∧ 0 ≤ x ∧ 0 ≤ y ∧ y < 2147483647 ∧ 0 ≤ c ∧ c ≤ n
theorem Bx.mono {b : Addr} {n m : Nat} {H : Hp} (h : Bx b n H) (l : n ≤ m) : Bx b m H := by
  obtain ⟨x, y, c, h1, h2, h3, h4, h5, h6⟩ := h
  exact ⟨x, y, c, h1, h2, h3, h4, h5, by omega⟩
theorem Bx.ex {B : List Addr} {b : Addr} {n : Nat} {H H' : Hp} (h : Bx b n H) (e : Ex B H H') (hb : b ∉ B) : Bx b n H' := by
  obtain ⟨x, y, c, h1, h2, h3, h4, h5, h6⟩ := h
  exact ⟨x, y, c, e.1 _ _ hb h1, h2, h3, h4, h5, h6⟩

/-! ### numbers -/
theorem log2_small {j : Int} (h0 : 0 < j) (h : j ≤ 10 ^ 60) : j.natAbs.log2 < 9000 := by
  have h1 : j.natAbs ≤ 10 ^ 60 := by omega
  have h2 : j.natAbs < 2 ^ 200 := Nat.lt_of_le_of_lt h1 (by decide)
  exact Nat.lt_of_lt_of_le (PySem.Flt.log2_lt_of (by decide) h2) (by decide)
theorem divp_of {i j : Int} (h0 : 0 < j) (h : j ≤ 10 ^ 60) : CDivP i j := ⟨h0, PyProof.noPylong_of_log2 (log2_small h0 h)⟩
theorem divw_of {i j : Int} (h0 : 0 < j) (h : j ≤ 10 ^ 60) : CDivW i j := ⟨h0, log2_small h0 h⟩
theorem sl2 : 2 ≤ sizeLine := by decide
theorem sz_of {n : Nat} (h : n ≤ 100000) : n ≤ sizeLine := Nat.le_trans h (by decide)
theorem sz_lt {n : Nat} (h : n < 100000) : n < sizeLine := Nat.lt_of_lt_of_le h (by decide)
theorem small2 {i : Int} (h0 : 0 ≤ i) (h : i < 2 ^ 64) : -(2 ^ 64) < i ∧ i < 2 ^ 64 := ⟨by omega, h⟩

/-- a tuple (t) or a list -/
def SqX (t : Bool) (K : PySem.W.Frag) (H : Hp) (a : Addr) (xs : List V) : Prop := if t = true then SqT K H a xs else SqL K H a xs
section
variable {t : Bool} {K : PySem.W.Frag} {H H' : Hp} {a : Addr} {xs : List V}
theorem SqX.sq (h : SqX t K H a xs) : Sq K H a xs := by
  cases t with
  | true => exact .inr h
  | false => exact .inl h
theorem le_x (e : Le H H') (h : SqX t K H a xs) : SqX t K H' a xs := by
  cases t with
  | true => exact le_t e (show SqT K H a xs from h)
  | false => exact le_l e (show SqL K H a xs from h)
end
/-! ### loops -/
section
variable {K : PySem.W.Frag} {a : Addr} {xs : List V} {g : TG} {tb : TS} {D : Ends} {σ : L2.St} {H : Hp} {B : List Addr} {tl : TE}
theorem for_enum (Pv : Nat → L2.St → Hp → Prop) (h0 : Pv 0 σ H) (hl : ∀ i σ H, i ≤ xs.length → Pv i σ H → SqL K H a xs)
    (hs : ∀ (i : Nat) (x : V) (T : Addr) (σ : L2.St) (H : Hp), xs[i]? = some x → Pv i σ H → H T = none → g (.ref T) σ (upd H T (.tup [.int (i : Nat), x])) fun σ2 H2 => tb { D with nx := Pv (i + 1), ct := Pv (i + 1), bk := D.nx } σ2 H2) (hd : ∀ σ H, Pv xs.length σ H → D.nx σ H) :
    ∃ W : Nat → Nat → L2.St → Hp → Prop, (∃ m, W 0 m σ H) ∧ ∀ i m σ H, W i m σ H →
      ((Ite K a).stop i H ∧ D.nx σ H) ∨ ((Ite K a).go i H ∧ ∃ N : L2.St → Hp → Prop, (∀ σ' H', N σ' H' → ∃ m', m' < m ∧ W (i + 1) m' σ' H') ∧ ∀ v H', (Ite K a).yld i H v H' → g v σ H' fun σ2 H2 => tb { D with nx := N, ct := N, bk := D.nx } σ2 H2) := by
  refine ⟨fun i m σ H => m = xs.length - i ∧ i ≤ xs.length ∧ Pv i σ H, ⟨xs.length, rfl, Nat.zero_le _, h0⟩, ?_⟩
  rintro i m σ H ⟨rfl, hi, p⟩
  have qx := hl i σ H hi p
  by_cases hlt : i < xs.length
  · have hx : xs[i]? = some xs[i] := List.getElem?_eq_getElem hlt
    refine .inr ⟨⟨xs, _, qx, hx⟩, Pv (i + 1), fun σ' H' p' => ⟨xs.length - (i + 1), by omega, rfl, hlt, p'⟩, fun v H' y => ?_⟩
    obtain ⟨T, x', rfl, hT, rfl, f1⟩ := y
    exact hs i x' T σ H (f1 xs qx) p hT
  · have e : i = xs.length := by omega
    subst e
    exact .inl ⟨⟨xs, qx, Nat.le_refl _⟩, hd σ H p⟩
/-- over a list or a tuple that stays as it is -/
theorem z_forS (hS : Sq K (wo B H) a xs) (htl : ∀ R : VK, R (.ref a) H → tl σ H R) (Pv : Nat → L2.St → Hp → Prop) (h0 : Pv 0 σ H) (hl : ∀ i σ' H', Pv i σ' H' → Ex B H H')
    (hs : ∀ (i : Nat) (x : V) (σ' : L2.St) (H' : Hp), xs[i]? = some x → Pv i σ' H' → g x σ' H' fun σ2 H2 => tb { D with nx := Pv (i + 1), ct := Pv (i + 1), bk := D.nx } σ2 H2) (hd : ∀ σ' H', Pv xs.length σ' H' → D.nx σ' H') :
    tFor (fun σ H R => iList K tl σ H R ∨ iTup K tl σ H R) g tb D σ H := by
  rcases hS with hS | hS
  · exact .inl (htl _ ⟨a, rfl, ⟨xs, le_l (wo_le B H) hS⟩, for_list Pv h0 (fun i σ' H' _ p => le_l (wo_le B H') (le_l (hl i σ' H' p).le hS)) hs hd⟩)
  · exact .inr (htl _ ⟨a, rfl, ⟨xs, le_t (wo_le B H) hS⟩, for_tup Pv h0 (fun i σ' H' _ p => le_t (wo_le B H') (le_t (hl i σ' H' p).le hS)) hs hd⟩)
end

/-! ### comprehensions: each item's value by R -/
theorem le_wo_cons {B C : List Addr} {D : Addr} {H H' : Hp} (hC : ∀ a, a ∈ C → a ∈ B) (hD : H D = none) (e : Ex C H H') : Le (wo B H) (wo (D :: B) H') := fun a o h => by
  obtain ⟨n, q⟩ := wo_some h
  refine wo_of (fun z => ?_) (e.1 a o (fun z => n (hC a z)) q)
  rcases List.mem_cons.mp z with z | z
  · rw [z, hD] at q; cases q
  · exact n z
section
variable {K : PySem.W.Frag} {g : TG} {te : TE} {vs : List Nat} {σ : L2.St} {H : Hp} {B C : List Addr}
/-- what a comprehension's loop keeps -/
def LcP (B C : List Addr) (H : Hp) (R : Nat → V → Hp → Prop) (J : Nat → Hp → Prop) (D : Addr) (i : Nat) (H' : Hp) : Prop :=
  Ex C H H' ∧ J i H' ∧ ∃ ys, H' D = some (.lst ys) ∧ ys.length = i ∧ ∀ j y, ys[j]? = some y → R j y (wo (D :: B) H')
/-- one turn's value goes onto the list -/
def LcT (B C : List Addr) (H : Hp) (R : Nat → V → Hp → Prop) (J : Nat → Hp → Prop) (g : TG) (te : TE) (vs : List Nat) (σ : L2.St) (i : Nat) (x : V) : Prop :=
  ∀ D H', H D = none → D ∉ B → Ex C H H' → J i H' → (H' D ≠ none) → ∀ N : VK, (∀ y H3, Ex C H' H3 → R i y (wo (D :: B) H3) → J (i + 1) H3 → N y H3) → g x (wipe σ vs) H' fun σ2 H2 => wipe σ2 vs = wipe σ vs ∧ te σ2 H2 N
structure LcOk (B C : List Addr) (H : Hp) (R : Nat → V → Hp → Prop) (J : Nat → Hp → Prop) (n : Nat) : Prop where
  hB : ∀ b, b ∈ B → H b ≠ none
  hC : ∀ a, a ∈ C → a ∈ B
  hR : ∀ i v G G', Le G G' → R i v G → R i v G'
  hJ : ∀ D i H' H'', H D = none → D ∉ B → Ex [D] H' H'' → J i H' → J i H''
  j0 : J 0 H
  hn : n < 100000
theorem lcOk0 {R : Nat → V → Prop} {n : Nat} (h : n < 100000) : LcOk [] [] H (fun i v _ => R i v) (fun _ _ => True) n := ⟨fun b hb => by simp at hb, fun _ h => h, fun _ _ _ _ _ h => h, fun _ _ _ _ _ _ _ _ => trivial, trivial, h⟩
theorem LcOk.nb {R : Nat → V → Hp → Prop} {J : Nat → Hp → Prop} {n : Nat} (O : LcOk B C H R J n) {D : Addr} (hD : H D = none) : D ∉ B := fun h => O.hB D h hD
theorem lcP_start {R : Nat → V → Hp → Prop} {J : Nat → Hp → Prop} {n : Nat} (O : LcOk B C H R J n) {D : Addr} (hD : H D = none) {H1 : Hp} (x1 : Ex [] H H1) : LcP B C H R J D 0 (upd H1 D (.lst [])) :=
  ⟨(Ex.nil x1).mutNew' hD, O.hJ D 0 H _ hD (O.nb hD) ((Ex.nil x1).trans (Ex.mut (List.mem_singleton.mpr rfl))) O.j0, [], upd_same, rfl, fun j y h => by simp at h⟩
theorem le_upd {B C : List Addr} (hC : ∀ a, a ∈ C → a ∈ B) {D : Addr} {H' H3 : Hp} {o : HO} (e : Ex C H' H3) : Le (wo (D :: B) H') (wo (D :: B) (upd H3 D o)) := fun a u h => by
  obtain ⟨n, q⟩ := wo_some h
  have na : a ≠ D := fun z => n (by rw [z]; exact List.mem_cons_self ..)
  have nb : a ∉ B := fun z => n (List.mem_cons_of_mem _ z)
  refine wo_of n ?_
  rw [upd_ne na]
  exact e.1 a u (fun z => nb (hC a z)) q
theorem lcP_turn {R : Nat → V → Hp → Prop} {J : Nat → Hp → Prop} {n : Nat} (O : LcOk B C H R J n) {D : Addr} (hD : H D = none) {i : Nat} (hi : i < n) {H' H3 : Hp} {y : V} (p : LcP B C H R J D i H') (e : Ex C H' H3) (r : R i y (wo (D :: B) H3)) (j : J (i + 1) H3) :
    ∃ acc, H3 D = some (.lst acc) ∧ acc.length < sizeLine ∧ LcP B C H R J D (i + 1) (upd H3 D (.lst (acc ++ [y]))) := by
  obtain ⟨x1, _, ys, d1, l1, r1⟩ := p
  have nb := O.nb hD
  refine ⟨ys, e.1 D _ (fun z => nb (O.hC D z)) d1, sz_lt (by have := O.hn; omega), (x1.trans e).mutNew' hD, O.hJ D _ _ _ hD nb (Ex.mut (List.mem_singleton.mpr rfl)) j, ys ++ [y], upd_same, by simp [l1], fun k z hk => ?_⟩
  by_cases c : k < ys.length
  · rw [List.getElem?_append_left c] at hk
    exact O.hR k z _ _ (le_upd O.hC e) (r1 k z hk)
  · have ek : k = i := by
      have : k < (ys ++ [y]).length := by
        obtain ⟨h, _⟩ := List.getElem?_eq_some_iff.mp hk
        exact h
      rw [List.length_append, List.length_singleton] at this
      omega
    subst ek
    rw [List.getElem?_append_right (by omega), l1, Nat.sub_self] at hk
    have ez : y = z := Option.some.inj hk
    subst ez
    exact O.hR k y _ _ (le_upd O.hC (Ex.refl _ _)) r
theorem lcP_end {R : Nat → V → Hp → Prop} {J : Nat → Hp → Prop} {n : Nat} (O : LcOk B C H R J n) {D : Addr} {H' : Hp} (p : LcP B C H R J D n H') :
    ∃ ys, H' D = some (.lst ys) ∧ ys.length = n ∧ (∀ j y, ys[j]? = some y → R j y (wo B H')) ∧ Ex C H H' ∧ J n H' := by
  obtain ⟨x1, j1, ys, d1, l1, r1⟩ := p
  exact ⟨ys, d1, l1, fun j y h => O.hR j y _ _ (wo_le2 fun a h => List.mem_cons_of_mem _ h) (r1 j y h), x1, j1⟩
theorem lcP_there {R : Nat → V → Hp → Prop} {J : Nat → Hp → Prop} {D : Addr} {i : Nat} {H' : Hp} (p : LcP B C H R J D i H') : H' D ≠ none := by
  obtain ⟨_, _, ys, d1, _⟩ := p
  rw [d1]
  exact fun z => by cases z
/-- what a comprehension over n items asks, the source standing -/
structure LcAll (B C : List Addr) (H : Hp) (R : Nat → V → Hp → Prop) (J : Nat → Hp → Prop) (g : TG) (te : TE) (vs : List Nat) (σ : L2.St) (n : Nat) (item : Nat → V → Prop) (Q : VK) : Prop where
  ok : LcOk B C H R J n
  turn : ∀ i x, i < n → item i x → LcT B C H R J g te vs σ i x
  fin : ∀ D ys H', H D = none → H' D = some (.lst ys) → ys.length = n → (∀ j y, ys[j]? = some y → R j y (wo B H')) → Ex C H H' → J n H' → Q (.ref D) H'
section
variable {R : Nat → V → Hp → Prop} {J : Nat → Hp → Prop} {n : Nat} {item : Nat → V → Prop} {Q : VK}
theorem LcAll.end_ (CC : LcAll B C H R J g te vs σ n item Q) {D : Addr} (hD : H D = none) {H' : Hp} (p : LcP B C H R J D n H') : Q (.ref D) H' := by
  obtain ⟨ys, d1, l1, r1, x1, j1⟩ := lcP_end CC.ok p
  exact CC.fin D ys H' hD d1 l1 r1 x1 j1
theorem LcAll.step (CC : LcAll B C H R J g te vs σ n item Q) {D : Addr} (hD : H D = none) {i : Nat} {x : V} {H' : Hp} (hi : i < n) (hx : item i x) (p : LcP B C H R J D i H') : g x (wipe σ vs) H' fun σ2 H2 => wipe σ2 vs = wipe σ vs ∧ tYes σ2 H2 fun b H3 =>
      if b = true then te σ2 H3 fun y H4 => ∃ acc, H4 D = some (.lst acc) ∧ acc.length < sizeLine ∧ LcP B C H R J D (i + 1) (upd H4 D (.lst (acc ++ [y]))) else LcP B C H R J D (i + 1) H3 := by
  have h1 := CC.turn i x hi hx D H' hD (CC.ok.nb hD) p.1 p.2.1 (lcP_there p) _ (fun y H3 e r j => lcP_turn CC.ok hD hi p e r j)
  simpa only [tYes, if_true, eq_self] using h1
end
theorem z_lcS {t : Bool} {xs : List V} {tl : TE} {Q : VK} (htl : ∀ R : VK, (∀ a H1, Ex [] H H1 → SqX t K (wo B H1) a xs → R (.ref a) H1) → tl σ H R) (R : Nat → V → Hp → Prop) (J : Nat → Hp → Prop)
    (k : ∀ H1, Ex [] H H1 → LcAll B C H1 R J g te vs σ xs.length (fun i x => xs[i]? = some x) Q) : tLc (fun σ H R => iList K tl σ H R ∨ iTup K tl σ H R) g tYes te vs σ H Q := by
  have lt : ∀ {i : Nat} {x : V}, xs[i]? = some x → i < xs.length := fun h => by
    obtain ⟨h, _⟩ := List.getElem?_eq_some_iff.mp h
    exact h
  cases t with
  | false => exact .inl (htl _ fun a H1 x1 hS => ⟨a, rfl, ⟨xs, le_l (wo_le B H1) hS⟩, fun D hD => lc_list (LcP B C H1 R J D) (lcP_start (k H1 x1).ok hD (Ex.refl _ _)) (fun i H' _ p => le_l (wo_le B H') (le_l (p.1.sub (k H1 x1).ok.hC).le hS)) (fun i x H' hx p => (k H1 x1).step hD (lt hx) hx p) (fun H' p => (k H1 x1).end_ hD p)⟩)
  | true => exact .inr (htl _ fun a H1 x1 hS => ⟨a, rfl, ⟨xs, le_t (wo_le B H1) hS⟩, fun D hD => lc_tup (LcP B C H1 R J D) (lcP_start (k H1 x1).ok hD (Ex.refl _ _)) (fun i H' _ p => le_t (wo_le B H') (le_t (p.1.sub (k H1 x1).ok.hC).le hS)) (fun i x H' hx p => (k H1 x1).step hD (lt hx) hx p) (fun H' p => (k H1 x1).end_ hD p)⟩)
theorem z_lcL {xs : List V} {tl : TE} {Q : VK} (htl : ∀ R : VK, (∀ a H1, Ex [] H H1 → SqL K (wo B H1) a xs → R (.ref a) H1) → tl σ H R) (R : Nat → V → Hp → Prop) (J : Nat → Hp → Prop)
    (k : ∀ H1, Ex [] H H1 → LcAll B C H1 R J g te vs σ xs.length (fun i x => xs[i]? = some x) Q) : tLc (iList K tl) g tYes te vs σ H Q := by
  have lt : ∀ {i : Nat} {x : V}, xs[i]? = some x → i < xs.length := fun h => by
    obtain ⟨h, _⟩ := List.getElem?_eq_some_iff.mp h
    exact h
  exact (htl _ fun a H1 x1 hS => ⟨a, rfl, ⟨xs, le_l (wo_le B H1) hS⟩, fun D hD => lc_list (LcP B C H1 R J D) (lcP_start (k H1 x1).ok hD (Ex.refl _ _)) (fun i H' _ p => le_l (wo_le B H') (le_l (p.1.sub (k H1 x1).ok.hC).le hS)) (fun i x H' hx p => (k H1 x1).step hD (lt hx) hx p) (fun H' p => (k H1 x1).end_ hD p)⟩)
theorem z_lcR {n : Nat} {lo : Int} {Q : VK} {wi : TI} (hwi : ∀ R : It → Hp → Prop, (∀ H1, Ex [] H H1 → R (Itr lo n) H1) → wi σ H R) (R : Nat → V → Hp → Prop) (J : Nat → Hp → Prop)
    (k : ∀ H1, Ex [] H H1 → LcAll B C H1 R J g te vs σ n (fun i x => x = .int (lo + i)) Q) : tLc wi g tYes te vs σ H Q :=
  hwi _ fun H1 x1 D hD => lc_range (LcP B C H1 R J D) (lcP_start (k H1 x1).ok hD (Ex.refl _ _)) (fun i H' hi p => (k H1 x1).step hD hi rfl p) (fun H' p => (k H1 x1).end_ hD p)
end

/-! ### data -/
/-- a tuple | a list -/
def sq (t : Bool) (ds : List PyData) : PyData := if t then .tuple ds else .list ds
section
variable {K : PySem.W.Frag} {G H : Hp} {v : V} {t : Bool} {ds : List PyData} {xs : List V} {B : List Addr}
theorem dp_sq (h : Dp K G v (sq t ds)) : ∃ a xs, v = .ref a ∧ SqX t K G a xs ∧ DpAll K G xs ds := by
  cases t with
  | true => cases (show Dp K G v (.tuple ds) from h) with | tup h1 h2 => exact ⟨_, _, rfl, h1, h2⟩
  | false => cases (show Dp K G v (.list ds) from h) with | lst h1 h2 => exact ⟨_, _, rfl, h1, h2⟩
theorem dp_tup (h : Dp K G v (.tuple ds)) : ∃ a xs, v = .ref a ∧ SqT K G a xs ∧ DpAll K G xs ds := by
  cases h with | tup h1 h2 => exact ⟨_, _, rfl, h1, h2⟩
theorem dp_int {i : Int} (h : Dp K G v (.int i)) : v = .int i := by cases h; rfl
theorem dp_bl {i : Bool} (h : Dp K G v (.bool i)) : v = .bl i := by cases h; rfl
theorem dpa_len : ∀ {xs : List V} {ds : List PyData}, DpAll K G xs ds → xs.length = ds.length
  | _, _, .nil => rfl
  | _, _, .cons _ h => by rw [List.length_cons, List.length_cons, dpa_len h]
theorem dpa_get : ∀ {xs : List V} {ds : List PyData} {i : Nat} {d : PyData}, DpAll K G xs ds → ds[i]? = some d → ∃ v, xs[i]? = some v ∧ Dp K G v d
  | _, _, _, _, .nil, e => by simp at e
  | _, _, 0, _, .cons r _, e => by simp at e; subst e; exact ⟨_, rfl, r⟩
  | _, _, i + 1, d, .cons _ t, e => by
    obtain ⟨u, h1, h2⟩ := dpa_get (i := i) (d := d) t (by simpa using e)
    exact ⟨u, by simpa using h1, h2⟩
theorem dpa_get' {i : Nat} {v : V} (h : DpAll K G xs ds) (e : xs[i]? = some v) : ∃ d, ds[i]? = some d ∧ Dp K G v d := by
  have hl := dpa_len h
  obtain ⟨hi, _⟩ := List.getElem?_eq_some_iff.mp e
  obtain ⟨u, h1, h2⟩ := dpa_get h (List.getElem?_eq_getElem (show i < ds.length by omega))
  rw [e] at h1
  cases h1
  exact ⟨_, List.getElem?_eq_getElem (show i < ds.length by omega), h2⟩
theorem dpa_of : ∀ {xs : List V} {ds : List PyData}, xs.length = ds.length → (∀ (i : Nat) (v : V), xs[i]? = some v → ∃ d, ds[i]? = some d ∧ Dp K G v d) → DpAll K G xs ds
  | [], [], _, _ => .nil
  | [], _ :: _, h, _ => by simp at h
  | _ :: _, [], h, _ => by simp at h
  | x :: xs, d :: ds, h, q => by
    refine .cons ?_ (dpa_of (by simpa using h) fun i v e => ?_)
    · obtain ⟨d', e1, e2⟩ := q 0 x rfl
      cases e1
      exact e2
    · obtain ⟨d', e1, e2⟩ := q (i + 1) v (by simpa using e)
      exact ⟨d', by simpa using e1, e2⟩
theorem dpa_ints : ∀ {ns : List Int} {xs : List V}, DpAll K G xs (ns.map PyData.int) → xs = ns.map V.int
  | [], _, h => by cases h; rfl
  | n :: ns, _, h => by
    cases h with
    | cons h1 h2 => rw [dp_int h1, dpa_ints h2]; rfl
theorem dpa_of_ints : ∀ (ns : List Int), DpAll K G (ns.map V.int) (ns.map PyData.int)
  | [] => .nil
  | n :: ns => .cons (.int n) (dpa_of_ints ns)
theorem z_ixD {i : Int} {d : PyData} {j : Nat} {Q : VK} (h : Dp K G v (sq t ds)) (le : Le G H) (ei : i = (j : Int)) (hd : ds[j]? = some d) (q : ∀ u, Dp K G u d → Q u H) : rIx K v (.int i) H Q := by
  obtain ⟨a, xs, rfl, hS, hA⟩ := dp_sq h
  obtain ⟨u, h1, h2⟩ := dpa_get hA hd
  refine z_ix (le_s le hS.sq) (v := u) ?_ (q u h2)
  rw [ei]
  exact atI_nat h1
theorem Le.refl (H : Hp) : Le H H := fun _ _ h => h
theorem Le.trans {H1 H2 H3 : Hp} (a : Le H1 H2) (b : Le H2 H3) : Le H1 H3 := fun x o h => b x o (a x o h)
theorem Ex.le0 {H H' : Hp} (e : Ex [] H H') : Le H H' := fun a o h => e.1 a o (by simp) h
/-- a comprehension's ints -/
theorem ys_ints {α : Type} {l : List α} {f : α → Int} {ys : List V} (hl : ys.length = l.length) (h : ∀ (j : Nat) (y : V), ys[j]? = some y → ∃ d, l[j]? = some d ∧ y = V.int (f d)) : ys = (l.map f).map V.int := by
  apply List.ext_getElem?
  intro j
  rw [List.getElem?_map, List.getElem?_map]
  by_cases c : j < ys.length
  · obtain ⟨d, e1, e2⟩ := h j ys[j] (List.getElem?_eq_getElem c)
    rw [List.getElem?_eq_getElem c, e1, e2]
    rfl
  · rw [List.getElem?_eq_none (by omega), List.getElem?_eq_none (by omega)]
    rfl
end
theorem fnOk_weak {P : Program} {w : World} {K : PySem.W.Frag} {mg : Str → Option Value} {base : Heap} {CX : CXT} {k : Nat} {f : Addr} {fd : FuncData} {ps : List Str} {sp sp' : Sp} (F : FnOk P w K mg base CX k f fd ps sp) (h : ∀ vs H Q E, sp' vs H Q E → sp vs H Q E) : FnOk P w K mg base CX k f fd ps sp' :=
  ⟨fun vs H Q E q => F.len vs H Q E (h _ _ _ _ q), fun A outer s H args us vs Q E r e b v q => F.run A outer s H args us vs Q E r e b v (h _ _ _ _ q)⟩

/-! ### hills -/
structure Hill where
  year : List (Int × Bool)
  needs : List Int
  most : Int
namespace Hill
def drops (h : Hill) : Int := (h.year.map (·.1)).sum
abbrev dat (t : Bool) (h : Hill) : PyData := sq t [sq t (h.year.map fun d => sq t [.int d.1, .bool d.2]), sq t (h.needs.map PyData.int), .int h.most]
end Hill

theorem cut_head (xs : List V) (n : Nat) : cutV xs none (some (n : Int)) = xs.take n := by
  unfold cutV
  rw [HT.sIx_nat, HT.sIx_none, List.drop_zero, Nat.sub_zero]
  by_cases h : n ≤ xs.length
  · rw [Nat.min_eq_left h]
  · rw [Nat.min_eq_right (by omega), List.take_of_length_le (Nat.le_refl _), List.take_of_length_le (by omega)]
theorem cut_mid (xs : List V) (n m : Nat) (h : xs.length ≤ m) : cutV xs (some (n : Int)) (some (m : Int)) = xs.drop n := by
  unfold cutV
  rw [HT.sIx_nat, HT.sIx_nat, Nat.min_eq_right h]
  by_cases h2 : n ≤ xs.length
  · rw [Nat.min_eq_left h2, List.take_of_length_le]
    rw [List.length_drop]
    omega
  · rw [Nat.min_eq_right (by omega), Nat.sub_self, List.take_zero, List.drop_eq_nil_of_le (by omega)]
theorem ixN_nat {n j : Nat} (hj : j < n) : ixN n (j : Int) = some j := by
  unfold ixN
  rw [if_pos (by omega), if_pos (by omega)]
  simp
theorem set_ints (ms : List Int) (j : Nat) (z : Int) : (ms.map V.int).set j (.int z) = (ms.set j z).map V.int := by
  rw [List.map_set]
theorem get_ints {ms : List Int} {j : Nat} (h : j < ms.length) : (ms.map V.int)[j]? = some (.int ms[j]) := by
  rw [List.getElem?_map, List.getElem?_eq_getElem h]
  rfl

/-! ### the rules with the written part named (a comprehension's block has the same) -/
section
variable {X : Cx}
theorem ixK (K : PySem.W.Frag) (h : X.K = K := by rfl) : IxR X (rIx K) := by subst h; exact ix_any
theorem slK (K : PySem.W.Frag) (h : X.K = K := by rfl) : SlR X (rSlB K) := by subst h; exact sl_seq
theorem lenK (K : PySem.W.Frag) (h : X.K = K := by rfl) : CallR X (.builtin "len") (fun xs H Q => ∃ p ys, xs = [.ref p] ∧ Sq K H p ys ∧ Q (.int ys.length) H) := by subst h; exact call_len_seq
theorem sumK (K : PySem.W.Frag) (hc : X.calm = true := by rfl) (h : X.K = K := by rfl) : CallR X (.builtin "sum") (rSumA K) := by subst h; exact cr_sumA hc
theorem allK (K : PySem.W.Frag) (hc : X.calm = true := by rfl) (h : X.K = K := by rfl) : CallR X (.builtin "all") (rAll K) := by subst h; exact cr_all hc
theorem anyK (K : PySem.W.Frag) (hc : X.calm = true := by rfl) (h : X.K = K := by rfl) : CallR X (.builtin "any") (rAny K) := by subst h; exact cr_any hc
def rListA (K : PySem.W.Frag) : List V → Hp → VK → Prop := fun xs H Q => ∃ p ys, xs = [.ref p] ∧ Sq K H p ys ∧ ∀ l, H l = none → Q (.ref l) (upd H l (.lst ys))
theorem listK (K : PySem.W.Frag) (h : X.K = K := by rfl) : CallR X (.type "list") (rListA K) := by subst h; exact call_list_of
def rTupA (K : PySem.W.Frag) : List V → Hp → VK → Prop := fun xs H Q => ∃ p ys, xs = [.ref p] ∧ ((SqL K H p ys ∧ ∀ l, H l = none → Q (.ref l) (upd H l (.tup ys))) ∨ (SqT K H p ys ∧ Q (.ref p) H))
theorem tupK (K : PySem.W.Frag) (h : X.K = K := by rfl) : CallR X (.type "tuple") (rTupA K) := by subst h; exact call_tuple_of
theorem isiK (K : PySem.W.Frag) (h : X.K = K := by rfl) : CallR X (.builtin "isinstance") (rIsi K) := by subst h; exact call_isi
theorem isiTK (K : PySem.W.Frag) (h : X.K = K := by rfl) : CallR X (.builtin "isinstance") (rIsiT K) := by subst h; exact call_isiT
theorem inK (K : PySem.W.Frag) (h : X.K = K := by rfl) : OpR X (compareOp .In) (rIn K false) := by subst h; exact op_in_seq
theorem ninK (K : PySem.W.Frag) (h : X.K = K := by rfl) : OpR X (compareOp .NotIn) (rIn K true) := by subst h; exact op_notIn_seq
theorem eqDK (K : PySem.W.Frag) (hu : X.A.units + 64 < cLine) (h : X.K = K := by rfl) : OpR X (compareOp .Eq) (rEqD K) := by subst h; exact op_eqD hu
theorem neDK (K : PySem.W.Frag) (hu : X.A.units + 64 < cLine) (h : X.K = K := by rfl) : OpR X (compareOp .NotEq) (rNeD K) := by subst h; exact op_neD hu
theorem catTK (K : PySem.W.Frag) (h : X.K = K := by rfl) : OpR X (binaryOp .Add) (rCatA K) := by subst h; exact op_catA
theorem pg_tupK (K : PySem.W.Frag) (n : Nat) {es : List Expr} {k : Nat} {t : TGs} {pos : Pos} (hc : X.calm = true) (h : PGs X es t) (hK : X.K = K := by rfl) (hn : (assignEach es X.env).length = n := by rfl) (hst : (assignEach es X.env).findIdx? (·.1) = none := by rfl) : PG X (.Tuple es k pos) (gTup K n t) := by
  subst hK
  exact pg_tup hc h hn hst
theorem pi_listK (K : PySem.W.Frag) {tg l : Expr} {tl : TE} (hl : PE X l tl) (h : X.K = K := by rfl) : PI X tg l (iList K tl) := by subst h; exact pi_list hl
theorem pi_tupK (K : PySem.W.Frag) {tg l : Expr} {tl : TE} (hl : PE X l tl) (h : X.K = K := by rfl) : PI X tg l (iTup K tl) := by subst h; exact pi_tup hl
theorem pi_seqK (K : PySem.W.Frag) {tg l : Expr} {tl : TE} (hl : PE X l tl) (h : X.K = K := by rfl) : PI X tg l (fun σ H R => iList K tl σ H R ∨ iTup K tl σ H R) := by subst h; exact pi_seq hl
end

section
variable {K : PySem.W.Frag} {H : Hp} {a : Addr} {xs : List V}
/-- a slice of a list or a tuple -/
theorem z_sl {t : Bool} {lo hi : Option Int} {Q : VK} (h : SqX t K H a xs) (q : ∀ p H', Ex [] H H' → SqX t K H' p (cutV xs lo hi) → Q (.ref p) H') : rSlB K (.ref a) lo hi H Q := by
  cases t with
  | false => exact .inl ⟨a, xs, rfl, h, fun p hp => q p _ (Ex.new hp) (SqL.of upd_same)⟩
  | true =>
    refine .inr ⟨a, xs, rfl, h, fun ⟨e1, e2⟩ => ?_, fun _ p hp => q p _ (Ex.new hp) (SqT.of upd_same)⟩
    have e : cutV xs lo hi = xs := by
      unfold cutV
      rw [e1, e2, List.drop_zero, Nat.sub_zero, List.take_length]
    exact q a H (Ex.refl _ _) (by rw [e]; exact h)
end

/-! ### what a datum's type is -/
def tyN : PyData → String
  | .none => "NoneType" | .bool _ => "bool" | .int _ => "int" | .str _ => "str" | .list _ => "list" | .tuple _ => "tuple" | .dict _ => "dict"
def isIn (a n : String) : Bool := a == n || (a == "bool" && n == "int")
section
variable {K : PySem.W.Frag} {H : Hp} {v : V} {d : PyData} {a : Addr} {xs : List V}
theorem tyx_l (h : SqL K H a xs) : TyX K H (.ref a) (.type "list") := by
  rcases h with (h | ⟨o, h⟩) | ⟨o, its, n, h1, h2, _⟩
  · exact .base (.lst h)
  · exact .base (.frz h)
  · exact .kList h1 h2
theorem tyx_t (h : SqT K H a xs) : TyX K H (.ref a) (.type "tuple") := by
  rcases h with (h | ⟨o, h⟩) | ⟨o, its, n, h1, h2, _⟩
  · exact .base (.tup h)
  · exact .fTuple h
  · exact .kTuple h1 h2
theorem tyx_dp (h : Dp K H v d) : TyX K H v (.type (tyN d)) := by
  cases h with
  | non => exact .base .non
  | bl b => exact .base (.bl b)
  | int i => exact .base (.int i)
  | str x => exact .base (.str x)
  | lst h1 _ => exact tyx_l h1
  | tup h1 _ => exact tyx_t h1
theorem kitB_all : ∀ a ∈ (["NoneType", "bool", "int", "str", "list", "tuple"] : List String), ∀ n ∈ (["list", "tuple", "bool", "int", "str"] : List String), kitB a n = some (isIn a n) := by decide +kernel
theorem tyN_mem (h : Dp K H v d) : tyN d ∈ (["NoneType", "bool", "int", "str", "list", "tuple"] : List String) := by
  cases h <;> simp [tyN]
theorem kitB_of (h : Dp K H v d) {n : String} (hn : n = "list" ∨ n = "tuple" ∨ n = "bool" ∨ n = "int" ∨ n = "str") : kitB (tyN d) n = some (isIn (tyN d) n) :=
  kitB_all _ (tyN_mem h) _ (by rcases hn with rfl | rfl | rfl | rfl | rfl <;> simp)
theorem z_isi {n : String} {Q : VK} (h : Dp K H v d) (hn : n = "list" ∨ n = "tuple" ∨ n = "bool" ∨ n = "int" ∨ n = "str") (q : Q (.bl (isIn (tyN d) n)) H) : rIsi K [v, .ty n] H Q :=
  ⟨v, .ty n, .type (tyN d), .type n, _, rfl, .ty n, tyx_dp h, kit_ty (kitB_of h hn), q⟩
theorem z_isiLT {p : Addr} {Q : VK} (h : Dp K H v d) (hp : H p = some (.tup [.ty "list", .ty "tuple"])) (q : Q (.bl (isIn (tyN d) "list" || isIn (tyN d) "tuple")) H) : rIsiT K [v, .ref p] H Q := by
  refine ⟨v, p, _, .type (tyN d), [.type "list", .type "tuple"], _, rfl, hp, .cons (.ty _) (.cons (.ty _) .nil), tyx_dp h, ?_, q⟩
  have e1 := kitB_of h (n := "list") (.inl rfl)
  have e2 := kitB_of h (n := "tuple") (.inr (.inl rfl))
  exact kitAny_cons (kit_ty e1) (fun e => by rw [e, Bool.false_or]; exact kitAny_cons (kit_ty e2) (fun e => by rw [e]; rfl) (fun e => e)) (fun e => by rw [e]; rfl)
end
mutual
/-- lists for tuples, at any depth -/
def listed : PyData → PyData
  | .list ds => .list (listedAll ds)
  | .tuple ds => .list (listedAll ds)
  | d => d
def listedAll : List PyData → List PyData
  | [] => []
  | d :: ds => listed d :: listedAll ds
end
theorem listedAll_map : ∀ ds : List PyData, listedAll ds = ds.map listed
  | [] => rfl
  | d :: ds => by show listed d :: listedAll ds = _; rw [listedAll_map ds]; rfl
/-- no deeper than n, no longer than 1000 -/
def dpt : Nat → PyData → Prop
  | 0, .list _ => False
  | 0, .tuple _ => False
  | n + 1, .list ds => ds.length ≤ 1000 ∧ ∀ d ∈ ds, dpt n d
  | n + 1, .tuple ds => ds.length ≤ 1000 ∧ ∀ d ∈ ds, dpt n d
  | _, .dict _ => False
  | _, _ => True
section
variable {K : PySem.W.Frag} {g : TG} {te : TE} {vs : List Nat} {σ : L2.St} {H : Hp} {B C : List Addr}
/-- a comprehension over zip of two lists, of two tuples -/
theorem z_lcZ {t : Bool} {xs ys : List V} {ta : TA} {Q : VK} (hl : xs.length = ys.length) (hta : ∀ R : List V → Hp → Prop, (∀ a b H1, Ex [] H H1 → SqX t K (wo B H1) a xs → SqX t K (wo B H1) b ys → R [.ref a, .ref b] H1) → ta σ H R) (R : Nat → V → Hp → Prop) (J : Nat → Hp → Prop)
    (ok : ∀ H1, Ex [] H H1 → LcOk B C H1 R J xs.length)
    (turn : ∀ H1, Ex [] H H1 → ∀ (i : Nat) x y, xs[i]? = some x → ys[i]? = some y → ∀ D T H', H1 D = none → D ∉ B → Ex C H1 H' → J i H' → H' D ≠ none → T ≠ D → H' T = some (.tup [x, y]) →
      ∀ N : VK, (∀ z H3, Ex C H' H3 → R i z (wo (D :: B) H3) → J (i + 1) H3 → N z H3) → g (.ref T) (wipe σ vs) H' fun σ2 H2 => wipe σ2 vs = wipe σ vs ∧ te σ2 H2 N)
    (fin : ∀ H1, Ex [] H H1 → ∀ D zs H', H1 D = none → H' D = some (.lst zs) → zs.length = xs.length → (∀ j y, zs[j]? = some y → R j y (wo B H')) → Ex C H1 H' → J xs.length H' → Q (.ref D) H') :
    tLc (RZ.iZipA K ta) g tYes te vs σ H Q := by
  refine hta _ fun a b H1 x1 hx hy => ?_
  have O := ok H1 x1
  -- the loop, whatever the two are
  have core : ∀ (J0 : It), (∀ i H', J0.go i H' ∨ True) → (∀ i H', i < xs.length → Ex C H1 H' → J0.go i H') → (∀ i H', i = xs.length → Ex C H1 H' → J0.stop i H') →
      (∀ i H' v H'', Ex C H1 H' → J0.yld i H' v H'' → ∃ T x y, v = .ref T ∧ H' T = none ∧ H'' = upd H' T (.tup [x, y]) ∧ xs[i]? = some x ∧ ys[i]? = some y) →
      ∀ D, H1 D = none → ∃ W : Nat → Nat → Hp → Prop, (∃ m, W 0 m (upd H1 D (.lst []))) ∧ ∀ i m H, W i m H →
      ((J0.stop i H ∧ Q (.ref D) H) ∨ (J0.go i H ∧ ∃ Nx : Hp → Prop, (∀ H', Nx H' → ∃ m', m' < m ∧ W (i + 1) m' H') ∧ ∀ x H', J0.yld i H x H' → g x (wipe σ vs) H' fun σ2 H2 => wipe σ2 vs = wipe σ vs ∧ tYes σ2 H2 fun b H3 =>
        if b = true then te σ2 H3 fun y H4 => ∃ acc, H4 D = some (.lst acc) ∧ acc.length < sizeLine ∧ Nx (upd H4 D (.lst (acc ++ [y]))) else Nx H3)) := fun J0 _ hgo hstop hyld D hD => by
    refine ⟨fun i m H' => m = xs.length - i ∧ i ≤ xs.length ∧ LcP B C H1 R J D i H', ⟨xs.length, rfl, Nat.zero_le _, lcP_start O hD (Ex.refl _ _)⟩, ?_⟩
    rintro i m H' ⟨rfl, hi, p⟩
    by_cases hlt : i < xs.length
    · refine .inr ⟨hgo i H' hlt p.1, fun H'' => LcP B C H1 R J D (i + 1) H'', fun H'' p' => ⟨xs.length - (i + 1), by omega, rfl, hlt, p'⟩, fun v H'' yl => ?_⟩
      obtain ⟨T, x, y, rfl, hT, rfl, ex, ey⟩ := hyld i H' v H'' p.1 yl
      have hTD : T ≠ D := fun z => lcP_there p (z ▸ hT)
      have xT : Ex [] H' (upd H' T (.tup [x, y])) := Ex.new hT
      have pT : LcP B C H1 R J D i (upd H' T (.tup [x, y])) := by
        obtain ⟨e1, j1, zs, d1, l1, r1⟩ := p
        exact ⟨e1.trans (Ex.nil xT), O.hJ D i _ _ hD (O.nb hD) (Ex.nil xT) j1, zs, xT.1 D _ (by simp) d1, l1, fun j z hz => O.hR j z _ _ (Ex.nil xT).le (r1 j z hz)⟩
      have h1 := turn H1 x1 i x y ex ey D T _ hD (O.nb hD) pT.1 pT.2.1 (lcP_there pT) hTD upd_same _ (fun z H3 e r j => lcP_turn O hD hlt pT e r j)
      simpa only [tYes, if_true, eq_self] using h1
    · have e : i = xs.length := by omega
      subst e
      obtain ⟨zs, d1, l1, r1, x2, j1⟩ := lcP_end O p
      exact .inl ⟨hstop _ H' rfl p.1, fin H1 x1 D zs H' hD d1 l1 r1 x2 j1⟩
  cases t with
  | false =>
    have hx' : ∀ H', Ex C H1 H' → SqL K H' a xs := fun H' e => le_l (wo_le B H') (le_l (e.sub O.hC).le hx)
    have hy' : ∀ H', Ex C H1 H' → SqL K H' b ys := fun H' e => le_l (wo_le B H') (le_l (e.sub O.hC).le hy)
    refine ⟨a, b, xs, ys, rfl, .inl ⟨hx' H1 (Ex.refl _ _), hy' H1 (Ex.refl _ _), core (Itz K a b) (fun _ _ => .inr trivial) (fun i H' hi e => ?_) (fun i H' hi e => ?_) (fun i H' v H'' e yl => ?_)⟩⟩
    · exact ⟨xs, ys, _, _, hx' H' e, hy' H' e, List.getElem?_eq_getElem hi, List.getElem?_eq_getElem (show i < ys.length by omega)⟩
    · exact ⟨xs, ys, hx' H' e, hy' H' e, .inl (by omega)⟩
    · obtain ⟨T, x, y, rfl, hT, rfl, f1, f2⟩ := yl
      exact ⟨T, x, y, rfl, hT, rfl, f1 xs (hx' H' e), f2 ys (hy' H' e)⟩
  | true =>
    have hx' : ∀ H', Ex C H1 H' → SqT K H' a xs := fun H' e => le_t (wo_le B H') (le_t (e.sub O.hC).le hx)
    have hy' : ∀ H', Ex C H1 H' → SqT K H' b ys := fun H' e => le_t (wo_le B H') (le_t (e.sub O.hC).le hy)
    refine ⟨a, b, xs, ys, rfl, .inr ⟨hx' H1 (Ex.refl _ _), hy' H1 (Ex.refl _ _), core (RZ.ItzT K a b) (fun _ _ => .inr trivial) (fun i H' hi e => ?_) (fun i H' hi e => ?_) (fun i H' v H'' e yl => ?_)⟩⟩
    · exact ⟨xs, ys, _, _, hx' H' e, hy' H' e, List.getElem?_eq_getElem hi, List.getElem?_eq_getElem (show i < ys.length by omega)⟩
    · exact ⟨xs, ys, hx' H' e, hy' H' e, .inl (by omega)⟩
    · obtain ⟨T, x, y, rfl, hT, rfl, f1, f2⟩ := yl
      exact ⟨T, x, y, rfl, hT, rfl, f1 xs (hx' H' e), f2 ys (hy' H' e)⟩
end

/-! ### ranges of any ends -/
/-- the iterator that a range of great ends gives goes through its numbers as a small one's does -/
theorem turn_long {P : Program} {w : World} {K : PySem.W.Frag} {tg : Expr} (at0 : Addr) (lo : Int) (n : Nat) :
    Turn P w K tg (Itr lo n) [at0] at0 (fun k hp => IsLongIter hp at0 (lo + (k : Nat) * 1) ((n : Int) - (k : Nat)) 1) where
  mem := by simp
  obj := fun k hp there b hb => ⟨_, (List.mem_singleton.mp hb) ▸ there, fun v no => by injection (show Data.fields _ = Data.cell v from no)⟩
  keep := fun k hp hp2 there same => same at0 (List.mem_singleton.mpr rfl) _ there
  item := by
    intro X eP ew eK calm k pins sh σ H E J free there more
    subst eP; subst ew; subst eK
    obtain ⟨q0, q1, q2, q3, q4, q5⟩ := free at0 (List.mem_singleton.mpr rfl)
    refine (Walks.longrange (prog := X.prog) (w := X.w) (J.ok.hd calm) at0 lo 1 n).item k sh _ _ more there fun v hp2 tk2 hv there2 rest => ?_
    obtain ⟨tok, rfl⟩ := hv
    have J2 : Inv X pins σ H { sh with heap := hp2, toks := tk2 } := J.turned (fun b o nb e => rest b o (by simpa using nb) e) q0 q1 q3 q4 q5
    exact ⟨_, rfl, go_of (s := { sh with heap := hp2, toks := tk2 }) (n := "longrange_iterator") there2 rfl rfl (by decide)
      ⟨.int (lo + k), H, J2, ⟨tok, by rw [Int.mul_one]⟩, ⟨rfl, rfl⟩, there2, fun b hb => (free b hb).1⟩⟩
  done := by
    intro X eP ew eK calm k pins sh σ H E J free there over
    subst eP; subst ew; subst eK
    obtain ⟨q0, q1, q2, q3, q4, q5⟩ := free at0 (List.mem_singleton.mpr rfl)
    have none_left : (n : Int) - (k : Nat) ≤ 0 := by have : n ≤ k := over; omega
    exact wpAny_pyNext_long_end (J.ok.hd calm) there none_left fun hp2 rest =>
      ⟨rfl, J.turned (t' := sh.toks) (fun b o nb e => rest b o nb e) q0 q1 q3 q4 q5⟩
  self := fun _ _ _ _ _ there q => wpAny_pyIter_longiter there q
section
variable {X : Cx} {tg : Expr}
/-- a range just made, of any ends, gives an iterator -/
theorem range_any {pins : List (Addr × Obj)} {σ : L2.St} {H : Hp} {sh : Shared} {R : It → Hp → Prop} {E : Value → Shared → Prop} {lo hi : Int} {t u v : Tok} {tk : Nat} {ro : Obj}
    (er : ro = { cls := .type "range", data := .fields #[.int lo t, .int hi u, .int 1 v] }) (J : Inv X pins σ H sh) (q : R (Itr lo (hi - lo).toNat) H) :
    wpAny (model X.prog X.w) X.A (pyIter (.ref sh.heap.objs.size)) (PIE X pins σ tg R) E { sh with heap := sh.heap.push ro, toks := tk } := by
  subst er
  generalize er : ({ cls := .type "range", data := .fields #[.int lo t, .int hi u, .int 1 v] } : Obj) = ro
  have there : IsRange (sh.heap.push ro) sh.heap.objs.size lo hi 1 t u v := by subst er; exact IsRange.new ..
  have J2 : Inv X pins σ H { sh with heap := sh.heap.push ro, toks := tk } := J.kept fun b o e => Heap.get?_push_of_some _ e
  have first : lo + ((0 : Nat) : Int) * 1 = lo := by omega
  have left : (((hi - lo).toNat : Nat) : Int) - ((0 : Nat) : Int) = Builtin.Range.rangeSize lo hi 1 := by
    rw [rangeSize_one]
    split <;> omega
  have fp : ∀ b ∈ [(sh.heap.push ro).objs.size], FpOk X pins H b := fun b hb => by
    rw [List.mem_singleton.mp hb]
    exact J2.fpOk (Nat.le_refl _) (J2.hok.fresh (Nat.le_refl _))
  cases hs : Builtin.Range.small lo hi 1 with
  | true =>
    exact wpAny_pyIter_range there hs ⟨(sh.heap.push ro).objs.size, [(sh.heap.push ro).objs.size], _, _, H, rfl, J2.kept (t' := tk) fun b o e => Heap.get?_push_of_some _ e,
      turn_range _ lo (hi - lo).toNat, (by show IsRangeIter _ _ (lo + ((0 : Nat) : Int) * 1) ((((hi - lo).toNat : Nat) : Int) - ((0 : Nat) : Int)) 1; rw [first, left]; exact Heap.get?_push_size _ rfl), fp, q⟩
  | false =>
    exact wpAny_pyIter_longrange there hs ⟨(sh.heap.push ro).objs.size, [(sh.heap.push ro).objs.size], _, _, H, rfl, J2.kept (t' := tk) fun b o e => Heap.get?_push_of_some _ e,
      turn_long _ lo (hi - lo).toNat, (by show IsLongIter _ _ (lo + ((0 : Nat) : Int) * 1) ((((hi - lo).toNat : Nat) : Int) - ((0 : Nat) : Int)) 1; rw [first, left]; exact Heap.get?_push_size _ rfl), fp, q⟩
def iRng2W (ta : TA) : TI := fun σ H R => ta σ H fun vs H1 => ∃ i j : Int, vs = [.int i, .int j] ∧ R (Itr i (j - i).toNat) H1
theorem pi_range2W {a b : Expr} {ta : TA} {p pos : Pos} (glob : Gl X "range") (own : X.mg "range" = none) (ha : PA X [a, b] ta)
    (two : starEach [a, b] X.env = [(false, eval a X.env), (false, eval b X.env)] := by rfl) (one : starEach [b] X.env = [(false, eval b X.env)] := by rfl) :
    PI X tg (.Call (.Name "range" p) [a, b] [] pos) (iRng2W ta) :=
  ⟨fun pins sh σ H R J h => Call_ (ld_blt J glob own boot_range (PyProof.Rows.callWith_type1 (thn (ha.run pos pins sh σ H _ J h) fun us s1 ⟨vs, H1, J1, r1, i, j, e, q⟩ => by
    subst e
    obtain ⟨u1, u2, rfl, ⟨t, rfl⟩, ⟨t', rfl⟩⟩ := vals2 r1
    exact call_range_2 (range_any rfl J1 q)) (by rw [two, one]) (by rw [one]; rfl)))⟩
end
end Hz
namespace Hz
open PySem PySem.Spec PyProof.Rows L2
/-! ### a comprehension over a range, with a test -/
section
variable {K : PySem.W.Frag} {g : TG} {tt : TT} {te : TE} {vs : List Nat} {σ : L2.St} {H : Hp}
theorem z_lcRF {n : Nat} {lo : Int} {Q : VK} {wi : TI} (hwi : ∀ R : It → Hp → Prop, (∀ H1, Ex [] H H1 → R (Itr lo n) H1) → wi σ H R) (hn : n < 100000) (p : Nat → Bool) (f : Nat → V)
    (turn : ∀ H1, Ex [] H H1 → ∀ i, i < n → ∀ D H', H1 D = none → Ex [] H1 H' → H' D ≠ none → ∀ (N : VK) (M : Hp → Prop), (p i = true → ∀ H3, Ex [] H' H3 → N (f i) H3) → (p i = false → ∀ H3, Ex [] H' H3 → M H3) →
      g (.int (lo + i)) (wipe σ vs) H' fun σ2 H2 => wipe σ2 vs = wipe σ vs ∧ tt σ2 H2 fun b H3 => if b = true then te σ2 H3 N else M H3)
    (fin : ∀ H1, Ex [] H H1 → ∀ D H', H1 D = none → H' D = some (.lst (((List.range n).filter p).map f)) → Ex [] H1 H' → Q (.ref D) H') : tLc wi g tt te vs σ H Q := by
  refine hwi _ fun H1 x1 D hD => ?_
  have stay : ∀ {H' H3 : Hp} {xs : List V}, Ex [] H1 H' → Ex [] H' H3 → H' D = some (.lst xs) → H3 D = some (.lst xs) := fun _ e h => e.1 _ _ (by simp) h
  refine lc_range (fun i H' => Ex [] H1 H' ∧ H' D = some (.lst (((List.range i).filter p).map f))) ⟨Ex.new hD, upd_same⟩ (fun i H' hi hP => ?_) (fun H' hP => fin H1 x1 D H' hD hP.2 hP.1)
  obtain ⟨e1, hd⟩ := hP
  refine turn H1 x1 i hi D H' hD e1 (by rw [hd]; exact fun z => by cases z) _ _ (fun hp H3 e3 => ?_) (fun hp H3 e3 => ?_)
  · refine ⟨_, stay e1 e3 hd, sz_lt ?_, (e1.trans e3).mutNew' hD, ?_⟩
    · rw [List.length_map]
      have := List.length_filter_le p (List.range i)
      rw [List.length_range] at this
      omega
    · rw [upd_same, List.range_succ, List.filter_append, List.map_append, List.filter_cons_of_pos hp]
      rfl
  · refine ⟨e1.trans e3, ?_⟩
    rw [stay e1 e3 hd, List.range_succ, List.filter_append, List.map_append, List.filter_cons_of_neg (by rw [hp]; exact Bool.false_ne_true)]
    simp
end
end Hz
set_option Elab.async false
set_option linter.all false
namespace Hz
namespace Hill
def L (h : Hill) : Nat := h.year.length
def drop (h : Hill) (k : Nat) : Int := ((h.year[k % h.L]?).map (·.1)).getD 0
def isOpen (h : Hill) (k : Nat) : Bool := ((h.year[k % h.L]?).map (·.2)).getD false
/-- what days below n gave -/
def ge (h : Hill) (n : Nat) : Int := ((n / h.L : Nat) : Int) * h.drops + ((h.year.take (n % h.L)).map (·.1)).sum
/-- what days up to n gave -/
def given (h : Hill) (n : Nat) : Int := h.ge (n + 1)
theorem at_day {h : Hill} (hL : 0 < h.L) (k : Nat) : ∃ d, h.year[k % h.L]? = some d ∧ h.drop k = d.1 ∧ h.isOpen k = d.2 := by
  have hk : k % h.L < h.year.length := Nat.mod_lt _ hL
  refine ⟨h.year[k % h.L], List.getElem?_eq_getElem hk, ?_, ?_⟩
  · unfold drop; rw [List.getElem?_eq_getElem hk]; rfl
  · unfold isOpen; rw [List.getElem?_eq_getElem hk]; rfl
theorem take_sum {l : List (Int × Bool)} {i : Nat} {d : Int × Bool} (h : l[i]? = some d) : ((l.take (i + 1)).map (·.1)).sum = ((l.take i).map (·.1)).sum + d.1 := by
  rw [List.take_add_one, h, List.map_append, List.sum_append]
  simp
theorem ge_succ {h : Hill} (hL : 0 < h.L) (n : Nat) : h.ge (n + 1) = h.ge n + h.drop n := by
  obtain ⟨d, hd, ed, _⟩ := at_day hL n
  have hlt : n % h.L < h.L := Nat.mod_lt _ hL
  unfold ge
  rw [ed]
  by_cases c : n % h.L + 1 < h.L
  · have e1 : (n + 1) / h.L = n / h.L := by
      rw [Nat.succ_div]
      have : ¬ h.L ∣ n + 1 := by
        intro z
        have := Nat.mod_eq_zero_of_dvd z
        rw [Nat.add_mod, Nat.mod_eq_of_lt (show 1 < h.L by omega), Nat.mod_eq_of_lt c] at this
        omega
      rw [if_neg this]; omega
    have e2 : (n + 1) % h.L = n % h.L + 1 := by
      rw [Nat.add_mod, Nat.mod_eq_of_lt (show 1 < h.L by omega), Nat.mod_eq_of_lt c]
    rw [e1, e2, take_sum hd]
    omega
  · have ec : n % h.L + 1 = h.L := by omega
    have en := Nat.div_add_mod n h.L
    have e0 : n + 1 = h.L * (n / h.L + 1) := by rw [Nat.mul_add, Nat.mul_one]; omega
    have e1 : (n + 1) / h.L = n / h.L + 1 := by rw [e0]; exact Nat.mul_div_cancel_left _ hL
    have e2 : (n + 1) % h.L = 0 := by rw [e0]; exact Nat.mul_mod_right _ _
    have e3 : ((h.year.take (n % h.L)).map (·.1)).sum + d.1 = h.drops := by
      rw [← take_sum hd, ec]
      unfold L drops
      rw [List.take_length]
    rw [e1, e2, List.take_zero, List.map_nil, List.sum_nil]
    have e4 : (((n / h.L + 1 : Nat)) : Int) * h.drops = ((n / h.L : Nat) : Int) * h.drops + h.drops := by
      rw [show (((n / h.L + 1 : Nat)) : Int) = ((n / h.L : Nat) : Int) + 1 from rfl, Int.add_mul, Int.one_mul]
    rw [e4]
    omega
theorem given_eq {h : Hill} (hL : 0 < h.L) (n : Nat) : h.given n = ((n / h.L : Nat) : Int) * h.drops + ((h.year.take (n % h.L + 1)).map (·.1)).sum := by
  obtain ⟨d, hd, ed, _⟩ := at_day hL n
  unfold given
  rw [ge_succ hL, ed, take_sum hd]
  unfold ge
  omega
theorem given_succ {h : Hill} (hL : 0 < h.L) (n : Nat) : h.given (n + 1) = h.given n + h.drop (n + 1) := ge_succ hL (n + 1)
/-- days that give nothing below nought -/
def Nn (h : Hill) : Prop := ∀ d, d ∈ h.year → 0 ≤ d.1
theorem drop_nn {h : Hill} (hN : h.Nn) (hL : 0 < h.L) (n : Nat) : 0 ≤ h.drop n := by
  obtain ⟨d, hd, ed, _⟩ := at_day hL n
  rw [ed]
  exact hN d (List.mem_of_getElem? hd)
theorem ge_mono {h : Hill} (hN : h.Nn) (hL : 0 < h.L) {n m : Nat} (l : n ≤ m) : h.ge n ≤ h.ge m := by
  induction m with
  | zero => have : n = 0 := by omega
            subst this; exact Int.le_refl _
  | succ m ih =>
    by_cases c : n = m + 1
    · subst c; exact Int.le_refl _
    · have := ih (by omega)
      have d := drop_nn hN hL m
      rw [ge_succ hL]
      omega
theorem given_mono {h : Hill} (hN : h.Nn) (hL : 0 < h.L) {n m : Nat} (l : n ≤ m) : h.given n ≤ h.given m := ge_mono hN hL (by omega)
theorem ge_year {h : Hill} (hL : 0 < h.L) (n k : Nat) : h.ge (n + k * h.L) = h.ge n + k * h.drops := by
  unfold ge
  rw [Nat.add_mul_mod_self_right, Nat.add_mul_div_right _ _ hL]
  rw [show ((n / h.L + k : Nat) : Int) = ((n / h.L : Nat) : Int) + (k : Int) from rfl, Int.add_mul]
  omega
theorem given_year {h : Hill} (hL : 0 < h.L) (n k : Nat) : h.given (n + k * h.L) = h.given n + k * h.drops := by
  unfold given
  rw [show n + k * h.L + 1 = (n + 1) + k * h.L by omega, ge_year hL]
theorem isOpen_year {h : Hill} (n k : Nat) : h.isOpen (n + k * h.L) = h.isOpen n := by
  unfold isOpen
  rw [Nat.add_mul_mod_self_right]
theorem ge_zero (h : Hill) : h.ge 0 = 0 := by
  unfold ge
  simp
theorem least {P : Nat → Prop} (hd : ∀ n, P n ∨ ¬ P n) (n : Nat) : ∀ m, n ≤ m → P m → ∃ k, n ≤ k ∧ k ≤ m ∧ P k ∧ ∀ j, n ≤ j → j < k → ¬ P j := by
  intro m
  induction m using Nat.strongRecOn with
  | ind m ih =>
    intro hm hp
    by_cases c : ∃ j, n ≤ j ∧ j < m ∧ P j
    · obtain ⟨j, h1, h2, h3⟩ := c
      obtain ⟨k, a, b, p, q⟩ := ih j h2 h1 h3
      exact ⟨k, a, by omega, p, q⟩
    · exact ⟨m, hm, Nat.le_refl _, hp, fun j a b p => c ⟨j, a, b, p⟩⟩
/-- m is the first open day from n on -/
def OpenFrom (h : Hill) (n m : Nat) : Prop := n ≤ m ∧ h.isOpen m = true ∧ ∀ k, n ≤ k → k < m → h.isOpen k = false
theorem openFrom_ex {h : Hill} (hL : 0 < h.L) (ho : ∃ d, d ∈ h.year ∧ d.2 = true) (n : Nat) : ∃ m, h.OpenFrom n m ∧ m < n + h.L := by
  obtain ⟨d, hd, e⟩ := ho
  obtain ⟨j, hj, ej⟩ := List.getElem_of_mem hd
  have hjo : ∀ q, h.isOpen (j + q * h.L) = true := fun q => by
    rw [isOpen_year]
    unfold isOpen
    rw [Nat.mod_eq_of_lt (show j < h.L from hj), List.getElem?_eq_getElem hj, ej]
    exact e
  have hjl : j < h.L := hj
  -- the greatest year's place below n + L
  have en := Nat.div_add_mod n h.L
  have hmod : n % h.L < h.L := Nat.mod_lt _ hL
  have hc : n / h.L * h.L = h.L * (n / h.L) := Nat.mul_comm _ _
  by_cases c : n % h.L ≤ j
  · have h1 : n ≤ j + n / h.L * h.L := by rw [hc]; omega
    obtain ⟨k, a, b, p, q⟩ := least (P := fun k => h.isOpen k = true) (fun k => Decidable.em _) n _ h1 (hjo _)
    exact ⟨k, ⟨a, p, fun i x y => Bool.eq_false_iff.mpr (q i x y)⟩, by rw [hc] at b; omega⟩
  · have h1 : n ≤ j + (n / h.L + 1) * h.L := by rw [Nat.add_mul, hc]; omega
    obtain ⟨k, a, b, p, q⟩ := least (P := fun k => h.isOpen k = true) (fun k => Decidable.em _) n _ h1 (hjo _)
    exact ⟨k, ⟨a, p, fun i x y => Bool.eq_false_iff.mpr (q i x y)⟩, by rw [Nat.add_mul, hc] at b; omega⟩
theorem openFrom_uniq {h : Hill} {n a b : Nat} (x : h.OpenFrom n a) (y : h.OpenFrom n b) : a = b := by
  obtain ⟨x1, x2, x3⟩ := x
  obtain ⟨y1, y2, y3⟩ := y
  rcases Nat.lt_trichotomy a b with c | c | c
  · rw [y3 a x1 c] at x2; cases x2
  · exact c
  · rw [x3 b y1 c] at y2; cases y2
/-- m is the first open day by whose evening t drops were given -/
def DayOf (h : Hill) (t : Int) (m : Nat) : Prop := h.isOpen m = true ∧ t ≤ h.given m ∧ ∀ k, k < m → h.isOpen k = true → h.given k < t
theorem dayOf_uniq {h : Hill} {t : Int} {a b : Nat} (x : h.DayOf t a) (y : h.DayOf t b) : a = b := by
  obtain ⟨x1, x2, x3⟩ := x
  obtain ⟨y1, y2, y3⟩ := y
  rcases Nat.lt_trichotomy a b with c | c | c
  · have := y3 a c x1; omega
  · exact c
  · have := x3 b c y1; omega
theorem dayOf_of {h : Hill} (hN : h.Nn) (hL : 0 < h.L) {t : Int} {p m : Nat} (h1 : t ≤ h.given p) (h2 : ∀ k, k < p → h.given k < t) (h3 : h.OpenFrom p m) : h.DayOf t m := by
  obtain ⟨a, b, c⟩ := h3
  refine ⟨b, Int.le_trans h1 (given_mono hN hL a), fun k hk ho => ?_⟩
  by_cases d : k < p
  · exact h2 k d
  · rw [c k (by omega) hk] at ho; cases ho
theorem ge_at {h : Hill} (hL : 0 < h.L) (y j : Nat) (hj : j < h.L) : h.ge (y * h.L + j) = y * h.drops + ((h.year.take j).map (·.1)).sum := by
  unfold ge
  rw [Nat.add_comm, Nat.add_mul_div_right _ _ hL, Nat.add_mul_mod_self_right, Nat.div_eq_of_lt hj, Nat.mod_eq_of_lt hj, Nat.zero_add]
theorem drop_at {h : Hill} (y j : Nat) (hj : j < h.L) : h.drop (y * h.L + j) = (h.year[j]'hj).1 := by
  unfold drop
  rw [Nat.add_comm, Nat.add_mul_mod_self_right, Nat.mod_eq_of_lt hj, List.getElem?_eq_getElem hj]
  rfl
theorem dayOf_ex {h : Hill} (hN : h.Nn) (hL : 0 < h.L) (ho : ∃ d, d ∈ h.year ∧ d.2 = true) (hd : 0 < h.drops) (t : Int) : ∃ m, h.DayOf t m := by
  obtain ⟨m0, ⟨a, b, _⟩, _⟩ := openFrom_ex hL ho (t.toNat * h.L)
  have h1 : t ≤ h.given m0 := by
    have e := ge_at hL t.toNat 0 hL
    rw [Nat.add_zero, List.take_zero, List.map_nil, List.sum_nil] at e
    have m := ge_mono hN hL (show t.toNat * h.L ≤ m0 + 1 by omega)
    have z : (t.toNat : Int) * 1 ≤ (t.toNat : Int) * h.drops := Int.mul_le_mul_of_nonneg_left (by omega) (by omega)
    show t ≤ h.ge (m0 + 1)
    omega
  obtain ⟨k, _, _, p, q⟩ := least (P := fun k => h.isOpen k = true ∧ t ≤ h.given k) (fun k => Decidable.em _) 0 m0 (Nat.zero_le _) ⟨b, h1⟩
  refine ⟨k, p.1, p.2, fun j hj ho => ?_⟩
  have := q j (Nat.zero_le _) hj
  refine Int.not_le.mp fun z => this ⟨ho, z⟩
end Hill
end Hz
set_option Elab.async false
set_option linter.all false
set_option maxRecDepth 100000
set_option maxHeartbeats 4000000
namespace Z10
open PySem PySem.Spec PyProof.Rows L2 Hz
def topS (i : Nat) : Stmt := PySem.Challenge.pw_honeyturns_k10_the_last_one_below.main.body.getD i (.Pass ⟨0, 0, 0, 0⟩)
abbrev s_gone_back : Stmt := topS 1
abbrev N_gone_back : List Str := ["rings", "wides", "found", "step", "around", "highs", "fewest", "ties", "times", "place"]
abbrev P_gone_back : List Str := ["rings", "wides", "found"]
theorem sc_gone_back : FnScope N_gone_back P_gone_back (defScope s_gone_back) := ⟨rfl, rfl, rfl, by decide +kernel, rfl, by decide +kernel, by decide +kernel⟩
abbrev s_least_steps : Stmt := topS 2
abbrev N_least_steps : List Str := ["highs", "wides", "step", "around", "rings", "rests", "places", "found", "high", "place", "rest", "wide"]
abbrev P_least_steps : List Str := ["highs", "wides", "step", "around"]
theorem sc_least_steps : FnScope N_least_steps P_least_steps (defScope s_least_steps) := ⟨rfl, rfl, rfl, by decide +kernel, rfl, by decide +kernel, by decide +kernel⟩
abbrev s_first_in : Stmt := topS 3
abbrev N_first_in : List Str := ["begin", "step", "around", "low", "high", "ahead", "beyond", "found"]
abbrev P_first_in : List Str := ["begin", "step", "around", "low", "high"]
theorem sc_first_in : FnScope N_first_in P_first_in (defScope s_first_in) := ⟨rfl, rfl, rfl, by decide +kernel, rfl, by decide +kernel, by decide +kernel⟩
abbrev s_last_below : Stmt := topS 4
abbrev N_last_below : List Str := ["begin", "step", "around", "low", "high", "many", "back"]
abbrev P_last_below : List Str := ["begin", "step", "around", "low", "high", "many"]
theorem sc_last_below : FnScope N_last_below P_last_below (defScope s_last_below) := ⟨rfl, rfl, rfl, by decide +kernel, rfl, by decide +kernel, by decide +kernel⟩
abbrev s__law_box : Stmt := topS 6
abbrev N__law_box : List Str := ["_law_script", "_law_k", "_law_cell"]
abbrev P__law_box : List Str := ["_law_script", "_law_k"]
theorem sc__law_box : FnScope N__law_box P__law_box (defScope s__law_box) := ⟨rfl, rfl, rfl, by decide +kernel, rfl, by decide +kernel, by decide +kernel⟩
abbrev s__law_take : Stmt := topS 7
abbrev N__law_take : List Str := ["_law_box_here", "_law_size", "_law_found", "_law_stir", "_law_once", "_law_twice"]
abbrev P__law_take : List Str := ["_law_box_here", "_law_size"]
theorem sc__law_take : FnScope N__law_take P__law_take (defScope s__law_take) := ⟨rfl, rfl, rfl, by decide +kernel, rfl, by decide +kernel, by decide +kernel⟩
abbrev s__law_folded : Stmt := topS 8
abbrev N__law_folded : List Str := ["_law_script", "_law_size", "_law_cells", "_law_k", "_law_cell"]
abbrev P__law_folded : List Str := ["_law_script", "_law_size"]
theorem sc__law_folded : FnScope N__law_folded P__law_folded (defScope s__law_folded) := ⟨rfl, rfl, rfl, by decide +kernel, rfl, by decide +kernel, by decide +kernel⟩
abbrev s__law_same : Stmt := topS 9
abbrev N__law_same : List Str := ["_law_found", "_law_wanted", "_law_mine", "_law_its"]
abbrev P__law_same : List Str := ["_law_found", "_law_wanted"]
theorem sc__law_same : FnScope N__law_same P__law_same (defScope s__law_same) := ⟨rfl, rfl, rfl, by decide +kernel, rfl, by decide +kernel, by decide +kernel⟩
abbrev s__law_of : Stmt := topS 10
abbrev N__law_of : List Str := ["_law_box_here", "_law_some"]
abbrev P__law_of : List Str := ["_law_box_here", "_law_some"]
theorem sc__law_of : FnScope N__law_of P__law_of (defScope s__law_of) := ⟨rfl, rfl, rfl, by decide +kernel, rfl, by decide +kernel, by decide +kernel⟩
abbrev s__law_floors : Stmt := topS 11
abbrev N__law_floors : List Str := ["_law_count", "_law_over", "_law_slope", "_law_base", "_law_total", "_law_top"]
abbrev P__law_floors : List Str := ["_law_count", "_law_over", "_law_slope", "_law_base"]
theorem sc__law_floors : FnScope N__law_floors P__law_floors (defScope s__law_floors) := ⟨rfl, rfl, rfl, by decide +kernel, rfl, by decide +kernel, by decide +kernel⟩
abbrev s__law_hits : Stmt := topS 12
abbrev N__law_hits : List Str := ["_law_count", "_law_mine", "_law_stride", "_law_ring", "_law_near", "_law_far", "_law_upper"]
abbrev P__law_hits : List Str := ["_law_count", "_law_mine", "_law_stride", "_law_ring", "_law_near", "_law_far"]
theorem sc__law_hits : FnScope N__law_hits P__law_hits (defScope s__law_hits) := ⟨rfl, rfl, rfl, by decide +kernel, rfl, by decide +kernel, by decide +kernel⟩
abbrev s__law_small_right : Stmt := topS 13
abbrev N__law_small_right : List Str := ["_law_box_here", "_law_ring", "_law_mine", "_law_stride", "_law_near", "_law_far", "_law_count", "_law_hits_here", "_law_due", "_law_told", "_law_k"]
abbrev P__law_small_right : List Str := ["_law_box_here"]
theorem sc__law_small_right : FnScope N__law_small_right P__law_small_right (defScope s__law_small_right) := ⟨rfl, rfl, rfl, by decide +kernel, rfl, by decide +kernel, by decide +kernel⟩
abbrev s__law_great_right : Stmt := topS 14
abbrev N__law_great_right : List Str := ["_law_box_here", "_law_ring", "_law_mine", "_law_stride", "_law_near", "_law_far", "_law_count", "_law_told", "_law_hits_here"]
abbrev P__law_great_right : List Str := ["_law_box_here"]
theorem sc__law_great_right : FnScope N__law_great_right P__law_great_right (defScope s__law_great_right) := ⟨rfl, rfl, rfl, by decide +kernel, rfl, by decide +kernel, by decide +kernel⟩
abbrev s__law_right : Stmt := topS 15
abbrev N__law_right : List Str := ["_law_box_here", "_law_again"]
abbrev P__law_right : List Str := ["_law_box_here"]
theorem sc__law_right : FnScope N__law_right P__law_right (defScope s__law_right) := ⟨rfl, rfl, rfl, by decide +kernel, rfl, by decide +kernel, by decide +kernel⟩
abbrev s_law : Stmt := topS 16
abbrev N_law : List Str := ["_law_script", "_law_cells", "_law_k"]
abbrev P_law : List Str := ["_law_script"]
theorem sc_law : FnScope N_law P_law (defScope s_law) := ⟨rfl, rfl, rfl, by decide +kernel, rfl, by decide +kernel, by decide +kernel⟩
structure Txt (K : PySem.W.Frag) (mg : Str → Option Value) where
  a_gone_back : Addr
  d_gone_back : FuncData
  F_gone_back : Fun K "gone_back" "gone_back" s_gone_back a_gone_back d_gone_back
  m_gone_back : mg "gone_back" = some (.ref a_gone_back)
  a_least_steps : Addr
  d_least_steps : FuncData
  F_least_steps : Fun K "least_steps" "least_steps" s_least_steps a_least_steps d_least_steps
  m_least_steps : mg "least_steps" = some (.ref a_least_steps)
  a_first_in : Addr
  d_first_in : FuncData
  F_first_in : Fun K "first_in" "first_in" s_first_in a_first_in d_first_in
  m_first_in : mg "first_in" = some (.ref a_first_in)
  a_last_below : Addr
  d_last_below : FuncData
  F_last_below : Fun K "last_below" "last_below" s_last_below a_last_below d_last_below
  m_last_below : mg "last_below" = some (.ref a_last_below)
  a__law_box : Addr
  d__law_box : FuncData
  F__law_box : Fun K "_law_box" "_law_box" s__law_box a__law_box d__law_box
  m__law_box : mg "_law_box" = some (.ref a__law_box)
  a__law_take : Addr
  d__law_take : FuncData
  F__law_take : Fun K "_law_take" "_law_take" s__law_take a__law_take d__law_take
  m__law_take : mg "_law_take" = some (.ref a__law_take)
  a__law_folded : Addr
  d__law_folded : FuncData
  F__law_folded : Fun K "_law_folded" "_law_folded" s__law_folded a__law_folded d__law_folded
  m__law_folded : mg "_law_folded" = some (.ref a__law_folded)
  a__law_same : Addr
  d__law_same : FuncData
  F__law_same : Fun K "_law_same" "_law_same" s__law_same a__law_same d__law_same
  m__law_same : mg "_law_same" = some (.ref a__law_same)
  a__law_of : Addr
  d__law_of : FuncData
  F__law_of : Fun K "_law_of" "_law_of" s__law_of a__law_of d__law_of
  m__law_of : mg "_law_of" = some (.ref a__law_of)
  a__law_floors : Addr
  d__law_floors : FuncData
  F__law_floors : Fun K "_law_floors" "_law_floors" s__law_floors a__law_floors d__law_floors
  m__law_floors : mg "_law_floors" = some (.ref a__law_floors)
  a__law_hits : Addr
  d__law_hits : FuncData
  F__law_hits : Fun K "_law_hits" "_law_hits" s__law_hits a__law_hits d__law_hits
  m__law_hits : mg "_law_hits" = some (.ref a__law_hits)
  a__law_small_right : Addr
  d__law_small_right : FuncData
  F__law_small_right : Fun K "_law_small_right" "_law_small_right" s__law_small_right a__law_small_right d__law_small_right
  m__law_small_right : mg "_law_small_right" = some (.ref a__law_small_right)
  a__law_great_right : Addr
  d__law_great_right : FuncData
  F__law_great_right : Fun K "_law_great_right" "_law_great_right" s__law_great_right a__law_great_right d__law_great_right
  m__law_great_right : mg "_law_great_right" = some (.ref a__law_great_right)
  a__law_right : Addr
  d__law_right : FuncData
  F__law_right : Fun K "_law_right" "_law_right" s__law_right a__law_right d__law_right
  m__law_right : mg "_law_right" = some (.ref a__law_right)
  a_law : Addr
  d_law : FuncData
  F_law : Fun K "law" "law" s_law a_law d_law
  m_law : mg "law" = some (.ref a_law)
  z_len : mg "len" = none
  z_abs : mg "abs" = none
  z_divmod : mg "divmod" = none
  z_all : mg "all" = none
  z_int : mg "int" = none
  z_bool : mg "bool" = none
  z_list : mg "list" = none
  z_tuple : mg "tuple" = none
  z_str : mg "str" = none
  z_max : mg "max" = none
  z_min : mg "min" = none
  z_isinstance : mg "isinstance" = none
  z_range : mg "range" = none
  z_enumerate : mg "enumerate" = none
  z_zip : mg "zip" = none
  z_reversed : mg "reversed" = none
section
variable {K : PySem.W.Frag} {mg : Str → Option Value}
theorem Txt.k_gone_back (T : Txt K mg) : PySem.W.keepIn K (.ref T.a_gone_back) = true := T.F_gone_back.kp
theorem Txt.b_gone_back (T : Txt K mg) : Binds K T.d_gone_back P_gone_back [] := T.F_gone_back.binds fun _ _ _ _ _ _ us hl => match us, hl with | [_, _, _], _ => rfl
theorem Txt.k_least_steps (T : Txt K mg) : PySem.W.keepIn K (.ref T.a_least_steps) = true := T.F_least_steps.kp
theorem Txt.b_least_steps (T : Txt K mg) : Binds K T.d_least_steps P_least_steps [] := T.F_least_steps.binds fun _ _ _ _ _ _ us hl => match us, hl with | [_, _, _, _], _ => rfl
theorem Txt.k_first_in (T : Txt K mg) : PySem.W.keepIn K (.ref T.a_first_in) = true := T.F_first_in.kp
theorem Txt.b_first_in (T : Txt K mg) : Binds K T.d_first_in P_first_in [] := T.F_first_in.binds fun _ _ _ _ _ _ us hl => match us, hl with | [_, _, _, _, _], _ => rfl
theorem Txt.k_last_below (T : Txt K mg) : PySem.W.keepIn K (.ref T.a_last_below) = true := T.F_last_below.kp
theorem Txt.b_last_below (T : Txt K mg) : Binds K T.d_last_below P_last_below [] := T.F_last_below.binds fun _ _ _ _ _ _ us hl => match us, hl with | [_, _, _, _, _, _], _ => rfl
theorem Txt.k__law_box (T : Txt K mg) : PySem.W.keepIn K (.ref T.a__law_box) = true := T.F__law_box.kp
theorem Txt.b__law_box (T : Txt K mg) : Binds K T.d__law_box P__law_box [] := T.F__law_box.binds fun _ _ _ _ _ _ us hl => match us, hl with | [_, _], _ => rfl
theorem Txt.k__law_take (T : Txt K mg) : PySem.W.keepIn K (.ref T.a__law_take) = true := T.F__law_take.kp
theorem Txt.b__law_take (T : Txt K mg) : Binds K T.d__law_take P__law_take [] := T.F__law_take.binds fun _ _ _ _ _ _ us hl => match us, hl with | [_, _], _ => rfl
theorem Txt.k__law_folded (T : Txt K mg) : PySem.W.keepIn K (.ref T.a__law_folded) = true := T.F__law_folded.kp
theorem Txt.b__law_folded (T : Txt K mg) : Binds K T.d__law_folded P__law_folded [] := T.F__law_folded.binds fun _ _ _ _ _ _ us hl => match us, hl with | [_, _], _ => rfl
theorem Txt.k__law_same (T : Txt K mg) : PySem.W.keepIn K (.ref T.a__law_same) = true := T.F__law_same.kp
theorem Txt.b__law_same (T : Txt K mg) : Binds K T.d__law_same P__law_same [] := T.F__law_same.binds fun _ _ _ _ _ _ us hl => match us, hl with | [_, _], _ => rfl
theorem Txt.k__law_of (T : Txt K mg) : PySem.W.keepIn K (.ref T.a__law_of) = true := T.F__law_of.kp
theorem Txt.b__law_of (T : Txt K mg) : Binds K T.d__law_of P__law_of [] := T.F__law_of.binds fun _ _ _ _ _ _ us hl => match us, hl with | [_, _], _ => rfl
theorem Txt.k__law_floors (T : Txt K mg) : PySem.W.keepIn K (.ref T.a__law_floors) = true := T.F__law_floors.kp
theorem Txt.b__law_floors (T : Txt K mg) : Binds K T.d__law_floors P__law_floors [] := T.F__law_floors.binds fun _ _ _ _ _ _ us hl => match us, hl with | [_, _, _, _], _ => rfl
theorem Txt.k__law_hits (T : Txt K mg) : PySem.W.keepIn K (.ref T.a__law_hits) = true := T.F__law_hits.kp
theorem Txt.b__law_hits (T : Txt K mg) : Binds K T.d__law_hits P__law_hits [] := T.F__law_hits.binds fun _ _ _ _ _ _ us hl => match us, hl with | [_, _, _, _, _, _], _ => rfl
theorem Txt.k__law_small_right (T : Txt K mg) : PySem.W.keepIn K (.ref T.a__law_small_right) = true := T.F__law_small_right.kp
theorem Txt.b__law_small_right (T : Txt K mg) : Binds K T.d__law_small_right P__law_small_right [] := T.F__law_small_right.binds fun _ _ _ _ _ _ us hl => match us, hl with | [_], _ => rfl
theorem Txt.k__law_great_right (T : Txt K mg) : PySem.W.keepIn K (.ref T.a__law_great_right) = true := T.F__law_great_right.kp
theorem Txt.b__law_great_right (T : Txt K mg) : Binds K T.d__law_great_right P__law_great_right [] := T.F__law_great_right.binds fun _ _ _ _ _ _ us hl => match us, hl with | [_], _ => rfl
theorem Txt.k__law_right (T : Txt K mg) : PySem.W.keepIn K (.ref T.a__law_right) = true := T.F__law_right.kp
theorem Txt.b__law_right (T : Txt K mg) : Binds K T.d__law_right P__law_right [] := T.F__law_right.binds fun _ _ _ _ _ _ us hl => match us, hl with | [_], _ => rfl
theorem Txt.k_law (T : Txt K mg) : PySem.W.keepIn K (.ref T.a_law) = true := T.F_law.kp
theorem Txt.b_law (T : Txt K mg) : Binds K T.d_law P_law [] := T.F_law.binds fun _ _ _ _ _ _ us hl => match us, hl with | [_], _ => rfl
def kg_last_below_many_high_low_around_step_begin {α : Type} : List α → List α → List α
  | [], [a0, a1, a2, a3, a4, a5] => [a5, a4, a3, a2, a1, a0]
  | _, _ => []
theorem Txt.kb_last_below_many_high_low_around_step_begin (T : Txt K mg) : KBinds K T.d_last_below P_last_below ["many", "high", "low", "around", "step", "begin"] kg_last_below_many_high_low_around_step_begin kg_last_below_many_high_low_around_step_begin := by
  obtain ⟨oc, od, kV, doc, pm, an, cdv, ct, osl, e, lk, hcd⟩ := T.F_last_below.ex
  refine ⟨fun s us ws _ hl => ?_, fun {vs us zs ws} r rz => ?_⟩
  · match us, ws, hl with
    | [], [a0, a1, a2, a3, a4, a5], _ => rw [e]; exact .of_eq rfl
  · exact match vs, us, zs, ws, r, rz with
    | _, _, _, _, .nil, .cons r0 (.cons r1 (.cons r2 (.cons r3 (.cons r4 (.cons r5 .nil))))) => .cons r5 (.cons r4 (.cons r3 (.cons r2 (.cons r1 (.cons r0 .nil)))))
    | _, _, _, _, .nil, .nil => .nil
    | _, _, _, _, .nil, .cons _ .nil => .nil
    | _, _, _, _, .nil, .cons _ (.cons _ .nil) => .nil
    | _, _, _, _, .nil, .cons _ (.cons _ (.cons _ .nil)) => .nil
    | _, _, _, _, .nil, .cons _ (.cons _ (.cons _ (.cons _ .nil))) => .nil
    | _, _, _, _, .nil, .cons _ (.cons _ (.cons _ (.cons _ (.cons _ .nil)))) => .nil
    | _, _, _, _, .nil, .cons _ (.cons _ (.cons _ (.cons _ (.cons _ (.cons _ (.cons _ _)))))) => .nil
    | _, _, _, _, .cons _ _, _ => .nil
end

end Z10
set_option Elab.async false
set_option linter.all false
set_option maxRecDepth 100000
set_option maxHeartbeats 4000000
namespace Z10
open PySem PySem.Spec PyProof.Rows L2 Hz
section
variable {P : Program} {w : World} {K : PySem.W.Frag} {mg : Str → Option Value} {base : Heap}
local macro_rules | `(tactic| walk_at "go") => `(tactic| repeat (first | refine ⟨_, rfl, ?_⟩ | refine ⟨_, _, rfl, rfl, ?_⟩ | refine ⟨_, _, rfl, .inl (by assumption), ?_⟩ | refine ⟨(by show (0 : Int) < _; first | decide | omega), ?_⟩ | refine ⟨(by first | exact Or.inl ⟨by decide, by decide⟩ | exact Or.inr ⟨by decide, by decide⟩ | exact Or.inl ⟨by omega, by omega⟩ | exact Or.inr ⟨by omega, by omega⟩), ?_⟩ | refine ⟨divw_of (by decide) (by decide), ?_⟩ | refine ⟨⟨by decide, by decide, by decide⟩, ?_⟩ | refine Or.inr ⟨_, rfl, ?_⟩ | refine z_ixL (by assumption) rfl ?_ | refine z_ixL upd_same rfl ?_ | refine ⟨_, _, _, _, rfl, rfl, by assumption, rfl, ?_⟩))
/-- a new box -/
def spBox (K : PySem.W.Frag) : Sp := fun vs H Q _ => ∃ (a : Addr) (ns : List Int) (k : Nat), vs = [.ref a, .int k] ∧ SqL K H a (ns.map V.int) ∧ k < 64 ∧
  ∀ p H', H p = none → Ex [] H H' → Bx p 0 H' → Q (.ref p) H'
theorem ok_box (T : Txt K mg) : FnOk P w K mg base CX0 1 T.a__law_box T.d__law_box P__law_box (spBox K) := by
  have nd := sc__law_box.nd
  refine T.F__law_box.ok sc__law_box (fun vs H Q E h => ?_) (fun cdv A outer s H vs Q E hr h => ?_)
  · obtain ⟨a, ns, k, rfl, _⟩ := h
    rfl
  · obtain ⟨a, ns, k, rfl, hS, hk, q⟩ := h
    refine ⟨_, (pss_cons (ps_set (i := 2) nd rfl (Or.inl rfl) (pe_ifExp (pt_cmpR op_lt (pv 1) (pe_callB (lenK K) (by rfl) T.z_len (by decide +kernel) (pa_cons (pv 0) pa_nil)) (nomark _)) (pe_ix (ixK K) (pv 0) (pv 1) (fun _ _ => rfl)) pe_int))
      (pss_one (ps_ret (pe_lst (pa_cons (pe_op op_mul (pe_callB call_abs (by rfl) T.z_abs (by decide +kernel) (pa_cons (pv 2) pa_nil)) (pe_callTy call_int1 (by rfl) T.z_int (by decide +kernel) (pa_cons (pe_cmpR op_ge (pe_callB call_abs (by rfl) T.z_abs (by decide +kernel) (pa_cons (pv 2) pa_nil)) (pe_op op_pow pe_int pe_int) (nomark _)) pa_nil))) (pa_cons (pe_op op_mod (pe_op op_mul (pe_op op_add (pe_op op_add (pe_op op_mod (pv 2) pe_int) (pe_op op_mul pe_int (pv 1))) pe_int) pe_int) pe_int) (pa_cons pe_int pa_nil))))))), ?_⟩
    have fin : ∀ (c : Int) (b : Bool) (p : Addr), H p = none → Q (.ref p) (upd H p (.lst [.int ((if c < 0 then -c else c) * (if b = true then 1 else 0)), .int ((c % 2147483629 + 15485863 * k + 43) * 48271 % 2147483647), .int 0])) := fun c b p hp => by
      refine q p _ hp (Ex.new hp) ⟨_, _, _, upd_same, ?_, by omega, by omega, by omega, by omega⟩
      cases b <;> simp <;> split <;> omega
    walk_at "go"
    refine ite2 (fun c => ?_) (fun c => ?_)
    · have c' : k < ns.length := by
        have := of_decide_eq_true c
        rw [List.length_map] at this
        omega
      walk_at "go"
      refine z_ix (.inl hS) (v := .int ns[k]) (atI_nat (by rw [List.getElem?_map, List.getElem?_eq_getElem c'] <;> rfl)) ?_
      walk_at "go"
      exact ⟨(by show 3 ≤ sizeLine; decide), fun p hp => fin _ _ p hp⟩
    · walk_at "go"
      exact ⟨(by show 3 ≤ sizeLine; decide), fun p hp => fin 0 _ p hp⟩
/-- a number below size out of the box -/
def spTake (N : Nat) : Sp := fun vs H Q _ => ∃ (b : Addr) (size : Int) (n : Nat), vs = [.ref b, .int size] ∧ Bx b n H ∧ n + 2 ^ (N + 1) ≤ 2 ^ 40 ∧ 1 ≤ size ∧ size ≤ (10 ^ 7) ^ (N + 1) ∧ N ≤ 5 ∧
  ∀ r H', 0 ≤ r → r < size → Ex [b] H H' → Bx b (n + 2 ^ N) H' → Q (.int r) H'
theorem ok_take_one (T : Txt K mg) (N : Nat) (sp' : Sp) (G__law_take : FnOk P w K mg base CX0 N T.a__law_take T.d__law_take P__law_take sp') (hsp : N = 0 ∨ ∃ M, N = M + 1 ∧ sp' = spTake M) :
    FnOk P w K mg base CX0 (N + 1) T.a__law_take T.d__law_take P__law_take (spTake N) := by
  have nd := sc__law_take.nd
  refine T.F__law_take.ok sc__law_take (fun vs H Q E h => ?_) (fun cdv A outer s H vs Q E hr h => ?_)
  · obtain ⟨b, size, n, rfl, _⟩ := h
    rfl
  · obtain ⟨b, size, n, rfl, hB, hn, h1, h2, hN, q⟩ := h
    have hr__law_take := hr
    have h60 : size ≤ 10 ^ 60 := by
      have e : ((10 : Int) ^ 7) ^ (N + 1) ≤ 10 ^ 60 := by
        have : N = 0 ∨ N = 1 ∨ N = 2 ∨ N = 3 ∨ N = 4 ∨ N = 5 := by omega
        rcases this with rfl | rfl | rfl | rfl | rfl | rfl <;> decide
      omega
    have hp1 : 1 ≤ 2 ^ N := Nat.one_le_two_pow
    have hB0 := hB
    obtain ⟨x, y, c, hb, hx, hy0, hy1, hc0, hc1⟩ := hB
    refine ⟨_, (pss_cons (ps_if (pt_cmpR op_gt (pe_ix (ixK K) (pv 0) pe_int (fun _ _ => rfl)) pe_int (nomark _)) (pss_cons (ps_asg (pe_callB call_divmodW (by rfl) T.z_divmod (by decide +kernel) (pa_cons (pe_ix (ixK K) (pv 0) pe_int (fun _ _ => rfl)) (pa_cons (pv 1) pa_nil))) (pg_tupK K 2 (by rfl) (pgs_cons (pg_sub (pv 0) pe_int set_list) (pgs_cons (pg_name (i := 2) nd rfl (Or.inl rfl)) pgs_nil))))
      (pss_one (ps_ret (pv 2)))) pss_nil)
      (pss_cons (ps_if (pt_cmpR op_gt (pv 1) (pe_op op_pow pe_int pe_int) (nomark _)) (pss_one (ps_ret (pe_op op_mod (pe_op op_add (pe_call G__law_take hr__law_take (by rfl) T.m__law_take T.k__law_take T.b__law_take .nil pass0 (pa_cons (pv 0) (pa_cons (pe_op op_pow pe_int pe_int) pa_nil))) (pe_op op_mul (pe_op op_pow pe_int pe_int) (pe_call G__law_take hr__law_take (by rfl) T.m__law_take T.k__law_take T.b__law_take .nil pass0 (pa_cons (pv 0) (pa_cons (pe_op op_add (pe_op op_fdivW (pe_op op_sub (pv 1) pe_int) (pe_op op_pow pe_int pe_int)) pe_int) pa_nil))))) (pv 1)))) pss_nil)
      (pss_cons (ps_asg (pe_op op_add (pe_ix (ixK K) (pv 0) pe_int (fun _ _ => rfl)) pe_int) (pg_sub (pv 0) pe_int set_list))
      (pss_cons (ps_set (i := 3) nd rfl (Or.inl rfl) (pe_op op_add pe_int (pe_op op_mul (pe_ix (ixK K) (pv 0) pe_int (fun _ _ => rfl)) (pe_ix (ixK K) (pv 0) pe_int (fun _ _ => rfl)))))
      (pss_cons (ps_set (i := 4) nd rfl (Or.inl rfl) (pe_op op_mod (pe_op op_mul (pe_op op_add (pe_ix (ixK K) (pv 0) pe_int (fun _ _ => rfl)) (pe_op op_mul pe_int (pe_ix (ixK K) (pv 0) pe_int (fun _ _ => rfl)))) (pv 3)) pe_int))
      (pss_cons (ps_set (i := 5) nd rfl (Or.inl rfl) (pe_op op_mod (pe_op op_add (pe_op op_mul (pv 4) (pe_op op_add (pe_op op_mod (pv 4) pe_int) pe_int)) (pe_ix (ixK K) (pv 0) pe_int (fun _ _ => rfl))) pe_int))
      (pss_one (ps_ret (pe_op op_mod (pe_op op_fdivW (pe_op op_mod (pe_op op_mul (pv 5) (pe_op op_add (pe_op op_mod (pv 5) pe_int) pe_int)) pe_int) pe_int) (pv 1)))))))))), ?_⟩
    walk_at "go"
    refine ite2 (fun c1 => ?_) (fun c1 => ?_)
    · have x0 : 0 < x := of_decide_eq_true c1
      walk_at "go"
      refine ⟨_, _, rfl, divp_of (by omega) h60, fun p hp => ?_⟩
      have hbp : b ≠ p := ne_of_none hb hp
      refine ⟨p, _, rfl, SqT.of upd_same, rfl, _, _, rfl, _, rfl, b, _, _, 0, rfl, rfl, (by rw [upd_ne hbp]; exact hb), rfl, ?_⟩
      refine ⟨_, _, rfl, rfl, ?_⟩
      walk_at "go"
      refine q _ _ (Int.emod_nonneg _ (by omega)) (Int.emod_lt_of_pos _ (by omega)) ((Ex.new hp).trans (Ex.mut (by simp))) ⟨_, _, _, upd_same, ?_, hy0, hy1, hc0, by omega⟩
      exact Int.ediv_nonneg hx (by omega)
    · have x0 : x = 0 := by
        have := of_decide_eq_false (Bool.eq_false_iff.mpr c1)
        omega
      walk_at "go"
      refine ite2 (fun c2 => ?_) (fun c2 => ?_)
      · have s7 : 10 ^ 7 < size := of_decide_eq_true c2
        rcases hsp with rfl | ⟨M, rfl, rfl⟩
        · exfalso
          have : size ≤ 10 ^ 7 := h2
          omega
        · have e2 : 2 ^ (M + 1) = 2 * 2 ^ M := by rw [Nat.pow_succ]; omega
          have e3 : 2 ^ (M + 1 + 1) = 4 * 2 ^ M := by rw [Nat.pow_succ, Nat.pow_succ]; omega
          have hM : 1 ≤ 2 ^ M := Nat.one_le_two_pow
          have big : (10 : Int) ^ 7 ≤ (10 ^ 7) ^ (M + 1) := by
            have : M = 0 ∨ M = 1 ∨ M = 2 ∨ M = 3 ∨ M = 4 := by omega
            rcases this with rfl | rfl | rfl | rfl | rfl <;> decide
          have e4 : ((10 : Int) ^ 7) ^ (M + 1 + 1) = (10 ^ 7) ^ (M + 1) * 10 ^ 7 := Int.pow_succ ..
          walk_at "go"
          refine ⟨b, _, n, rfl, hB0, by omega, (by decide), big, by omega, fun r1 H1 r10 r11 x1 B1 => ?_⟩
          walk_at "go"
          refine ⟨b, _, n + 2 ^ M, rfl, B1, by omega, ?_, ?_, by omega, fun r2 H2 r20 r21 x2 B2 => ?_⟩
          · have := Int.ediv_nonneg (show (0 : Int) ≤ size - 1 by omega) (show (0 : Int) ≤ 10 ^ Int.toNat 7 by decide)
            omega
          · have t7 : (10 : Int) ^ Int.toNat 7 = 10000000 := by decide
            have t8 : (10 : Int) ^ 7 = 10000000 := by decide
            rw [e4, t8] at h2
            rw [t7, t8]
            generalize ((10000000 : Int)) ^ (M + 1) = z at h2 ⊢
            omega
          walk_at "go"
          refine q _ _ (Int.emod_nonneg _ (by omega)) (Int.emod_lt_of_pos _ (by omega)) (x1.trans x2) (B2.mono (by omega))
      · have hn40 : n ≤ 1099511627776 := by omega
        walk_at "go"
        refine q _ _ (Int.emod_nonneg _ (by omega)) (Int.emod_lt_of_pos _ (by omega)) (Ex.mut (by simp)) ⟨_, _, _, upd_same, hx, hy0, hy1, by omega, by omega⟩
theorem ok_take (T : Txt K mg) : ∀ N, FnOk P w K mg base CX0 (N + 1) T.a__law_take T.d__law_take P__law_take (spTake N)
  | 0 => ok_take_one T 0 (fun _ _ _ _ => False) ⟨fun _ _ _ _ h => h.elim, fun _ _ _ _ _ _ _ _ _ _ _ _ _ h => h.elim⟩ (.inl rfl)
  | N + 1 => ok_take_one T (N + 1) (spTake N) (ok_take T N) (.inr ⟨N, rfl, rfl⟩)
def spT : Sp := fun vs H Q _ => ∃ (b : Addr) (size : Int) (n : Nat), vs = [.ref b, .int size] ∧ Bx b n H ∧ n ≤ 10 ^ 12 ∧ 1 ≤ size ∧ size ≤ 10 ^ 42 ∧
  ∀ r H', 0 ≤ r → r < size → Ex [b] H H' → Bx b (n + 32) H' → Q (.int r) H'
theorem ok_T (T : Txt K mg) : FnOk P w K mg base CX0 6 T.a__law_take T.d__law_take P__law_take spT := by
  refine fnOk_weak (ok_take T 5) fun vs H Q E h => ?_
  obtain ⟨b, size, n, rfl, hB, hn, h1, h2, q⟩ := h
  exact ⟨b, size, n, rfl, hB, (by have : n ≤ 1000000000000 := hn; omega), h1, h2, Nat.le_refl _, q⟩
/-- one of some things -/
def spOf (K : PySem.W.Frag) : Sp := fun vs H Q _ => ∃ (b a : Addr) (xs : List V) (n : Nat), vs = [.ref b, .ref a] ∧ Bx b n H ∧ n ≤ 10 ^ 12 ∧ Sq K (wo [b] H) a xs ∧ 1 ≤ xs.length ∧ xs.length ≤ 1000 ∧
  ∀ v H', v ∈ xs → Ex [b] H H' → Bx b (n + 32) H' → Q v H'
theorem ok_of (T : Txt K mg) : FnOk P w K mg base CX0 7 T.a__law_of T.d__law_of P__law_of (spOf K) := by
  have nd := sc__law_of.nd
  have G__law_take := ok_T (P := P) (w := w) (base := base) T
  refine T.F__law_of.ok sc__law_of (fun vs H Q E h => ?_) (fun cdv A outer s H vs Q E hr h => ?_)
  · obtain ⟨b, a, xs, n, rfl, _⟩ := h
    rfl
  · obtain ⟨b, a, xs, n, rfl, hB, hn, hS, l1, l2, q⟩ := h
    have hr__law_take := hr
    refine ⟨_, (pss_one (ps_ret (pe_ix (ixK K) (pv 1) (pe_call G__law_take hr__law_take (by rfl) T.m__law_take T.k__law_take T.b__law_take .nil pass0 (pa_cons (pv 0) (pa_cons (pe_callB (lenK K) (by rfl) T.z_len (by decide +kernel) (pa_cons (pv 1) pa_nil)) pa_nil))) (fun _ _ => rfl)))), ?_⟩
    have hS' : Sq K H a xs := le_s (wo_le _ _) hS
    refine ⟨_, rfl, _, rfl, _, rfl, _, _, rfl, hS', b, _, n, rfl, hB, hn, by omega, by omega, fun r H' r0 r1 e1 B1 => ?_⟩
    have hr' : r.toNat < xs.length := by omega
    have hS1 : Sq K H' a xs := le_s (wo_le _ _) (le_s e1.le hS)
    have er : r = ((r.toNat : Nat) : Int) := by omega
    have ea : atI xs ((r.toNat : Nat) : Int) = some xs[r.toNat] := atI_nat (List.getElem?_eq_getElem hr')
    rw [← er] at ea
    exact z_ix hS1 ea (q _ H' (List.getElem_mem _) e1 B1)
/-- the script's numbers, folded -/
def spFolded (K : PySem.W.Frag) : Sp := fun vs H Q _ => ∃ (a : Addr) (ns : List Int) (sz : Nat), vs = [.ref a, .int sz] ∧ SqL K H a (ns.map V.int) ∧ ns.length ≤ 63 ∧ 1 ≤ sz ∧ sz ≤ 3 ∧
  ∀ p H' (ms : List Int), H p = none → Ex [] H H' → H' p = some (.lst (ms.map V.int)) → ms.length ≤ sz → Q (.ref p) H'
theorem ok_folded (T : Txt K mg) : FnOk P w K mg base CX0 1 T.a__law_folded T.d__law_folded P__law_folded (spFolded K) := by
  have nd := sc__law_folded.nd
  refine T.F__law_folded.ok sc__law_folded (fun vs H Q E h => ?_) (fun cdv A outer s H vs Q E hr h => ?_)
  · obtain ⟨a, ns, sz, rfl, _⟩ := h
    rfl
  · obtain ⟨a, ns, sz, rfl, hS, l63, s1, s3, q⟩ := h
    refine ⟨_, (pss_cons (ps_set (i := 2) nd rfl (Or.inl rfl) (pe_callTy (listK K) (by rfl) T.z_list (by decide +kernel) (pa_cons (pe_slice (slK K) (pv 0) po_none (po_some (pv 1))) pa_nil)))
      (pss_cons (ps_for PassesOwn.never rfl (pi_enum (by rfl) T.z_enumerate (pa_cons (pe_slice (slK K) (pv 0) (po_some (pv 1)) (po_some pe_int)) pa_nil)) (pg_tupK K 2 (by rfl) (pgs_cons (pg_name (i := 3) nd rfl (Or.inl rfl)) (pgs_cons (pg_name (i := 4) nd rfl (Or.inl rfl)) pgs_nil))) (pss_one (ps_asg (pe_op op_add (pe_ix (ixK K) (pv 2) (pe_op op_mod (pv 3) (pv 1)) (fun _ _ => rfl)) (pe_op op_mul (pv 4) (pe_op op_add (pv 3) pe_int))) (pg_sub (pv 2) (pe_op op_mod (pv 3) (pv 1)) set_list))))
      (pss_one (ps_ret (pv 2))))), ?_⟩
    -- cells = list(script[:size])
    refine ⟨_, rfl, _, rfl, _, rfl, .inl ⟨_, _, rfl, hS, fun p1 hp1 => ⟨p1, _, rfl, .inl (SqL.of upd_same), fun l hl => ?_⟩⟩⟩
    rw [cut_head] at hl ⊢
    have n1 : l ≠ p1 := fun z => by rw [z, upd_same] at hl; cases hl
    have hl0 : H l = none := by rw [upd_ne n1] at hl; exact hl
    have x2 : Ex [] H (upd (upd H p1 (.lst ((ns.map V.int).take sz))) l (.lst ((ns.map V.int).take sz))) := (Ex.new hp1).mutNew' hl0
    refine ⟨_, rfl, _, rfl, _, rfl, _, rfl, .inl ⟨_, _, rfl, le_l x2.le0 hS, fun p3 hp3 => ⟨p3, _, rfl, SqL.of upd_same, ?_⟩⟩⟩
    rw [show (63 : Int) = ((63 : Nat) : Int) from rfl, cut_mid _ _ _ (by rw [List.length_map]; exact l63)]
    have n3 : p3 ≠ l := fun z => by rw [z, upd_same] at hp3; cases hp3
    have x3 := x2.trans (Ex.new (o := HO.lst ((ns.map V.int).drop sz)) hp3)
    rw [← List.map_drop] at x3 ⊢
    refine for_enum (xs := (ns.drop sz).map V.int) (fun i σ H3 => ∃ (ms : List Int) (y3 y4 : Option V), σ = [some (.ref a), some (.int sz), some (.ref l), y3, y4] ∧ ms.length = (ns.take sz).length ∧ H3 l = some (.lst (ms.map V.int)) ∧ H3 p3 = some (.lst ((ns.drop sz).map V.int)) ∧ Ex [] H H3)
      ⟨ns.take sz, none, none, rfl, rfl, ?_, upd_same, x3⟩ (fun i σ H3 _ ⟨_, _, _, _, _, _, h, _⟩ => SqL.of h) (fun i x T0 σ H3 hx ⟨ms, y3, y4, eσ, lm, hl3, hp3', x4⟩ hT => ?_) (fun σ H3 ⟨ms, y3, y4, eσ, lm, hl3, hp3', x4⟩ => ?_)
    · rw [upd_ne n3.symm, upd_same, List.map_take]
    · subst eσ
      obtain ⟨hi, ex⟩ := List.getElem?_eq_some_iff.mp hx
      rw [List.length_map, List.length_drop] at hi
      rw [List.getElem_map] at ex
      have lm2 : ms.length = sz := by rw [lm, List.length_take]; omega
      have nT : l ≠ T0 := ne_of_none hl3 hT
      have nT3 : p3 ≠ T0 := ne_of_none hp3' hT
      have hj : i % sz < ms.length := by rw [lm2]; exact Nat.mod_lt _ (by omega)
      have ej : ((i : Int) % (sz : Int)) = ((i % sz : Nat) : Int) := (Int.natCast_emod i sz).symm
      refine ⟨T0, _, rfl, SqT.of upd_same, rfl, _, _, rfl, _, _, rfl, rfl, ?_⟩
      refine ⟨_, rfl, _, rfl, _, rfl, _, _, rfl, rfl, (by show (0 : Int) < sz; omega), ?_⟩
      have hx2 : ∀ h : SqL K (upd H3 T0 (.tup [.int (i : Nat), x])) l (ms.map V.int), True := fun _ => trivial
      refine z_ix (.inl (SqL.of (by rw [upd_ne nT]; exact hl3))) (v := .int ms[i % sz]) (by show atI _ ((i : Int) % (sz : Int)) = _; rw [ej]; exact atI_nat (get_ints hj)) ?_
      rw [← ex]
      refine ⟨_, rfl, _, rfl, _, _, rfl, rfl, _, _, rfl, rfl, .inr ⟨by omega, by omega⟩, ?_⟩
      refine ⟨_, _, rfl, rfl, ?_⟩
      refine ⟨_, rfl, _, rfl, _, rfl, _, _, rfl, rfl, (by show (0 : Int) < sz; omega), ?_⟩
      refine ⟨l, _, _, i % sz, rfl, rfl, (by rw [upd_ne nT]; exact hl3), ?_, ?_⟩
      · show ixN _ ((i : Int) % (sz : Int)) = _
        rw [ej]
        exact ixN_nat (by rw [List.length_map]; exact hj)
      · refine ⟨_, _, _, rfl, ?_, by rw [upd_same, set_ints], ?_, (x4.trans (Ex.new hT)).mutNew' hl0⟩
        · rw [List.length_set]; exact lm
        · have n5 : p3 ≠ l := n3
          rw [upd_ne n5, upd_ne nT3]
          exact hp3'
    · subst eσ
      exact ⟨_, rfl, q l H3 ms hl0 x4 hl3 (by rw [lm, List.length_take]; omega)⟩
end
end Z10
set_option Elab.async false
set_option linter.all false
set_option maxRecDepth 100000
set_option maxHeartbeats 4000000
namespace Hz
open PySem PySem.Spec PyProof.Rows L2
/-! ### comprehensions whose values are told outright: nothing changes -/
section
variable {K : PySem.W.Frag} {g : TG} {tt : TT} {te : TE} {vs : List Nat} {σ : L2.St} {H : Hp}
/-- what has been made behind i items -/
abbrev LcF (H1 : Hp) (D : Addr) (p : Nat → Bool) (f : Nat → V) (i : Nat) (H' : Hp) : Prop := Ex [] H1 H' ∧ H' D = some (.lst (((List.range i).filter p).map f))
theorem lcF_next {H1 : Hp} {D : Addr} {p : Nat → Bool} {f : Nat → V} {i : Nat} {H' : Hp} (hD : H1 D = none) (hi : i < 100000) (P : LcF H1 D p f i H') {x : V} (turn : ∀ (N : VK) (M : Hp → Prop), (p i = true → ∀ H3, Ex [] H' H3 → N (f i) H3) → (p i = false → ∀ H3, Ex [] H' H3 → M H3) →
      g x (wipe σ vs) H' fun σ2 H2 => wipe σ2 vs = wipe σ vs ∧ tt σ2 H2 fun b H3 => if b = true then te σ2 H3 N else M H3) :
    g x (wipe σ vs) H' fun σ2 H2 => wipe σ2 vs = wipe σ vs ∧ tt σ2 H2 fun b H3 => if b = true then te σ2 H3 fun y H4 => ∃ acc, H4 D = some (.lst acc) ∧ acc.length < sizeLine ∧ LcF H1 D p f (i + 1) (upd H4 D (.lst (acc ++ [y]))) else LcF H1 D p f (i + 1) H3 := by
  obtain ⟨e1, hz⟩ := P
  have hlen : (((List.range i).filter p).map f).length ≤ i := by
    rw [List.length_map]
    have := List.length_filter_le p (List.range i)
    rwa [List.length_range] at this
  refine turn _ _ (fun pi H3 x3 => ⟨_, x3.1 _ _ (by simp) hz, sz_lt (by omega), (e1.trans x3).mutNew' hD, ?_⟩) (fun pi H3 x3 => ⟨e1.trans x3, ?_⟩)
  · rw [upd_same, List.range_succ, List.filter_append, List.map_append, List.filter_cons_of_pos pi, List.filter_nil]; rfl
  · rw [List.range_succ, List.filter_append, List.map_append, List.filter_cons_of_neg (by rw [pi]; decide), List.filter_nil, List.map_nil, List.append_nil]
    exact x3.1 _ _ (by simp) hz
/-- over a list or a tuple -/
theorem z_lcP {t : Bool} {xs : List V} {tl : TE} {Q : VK} (htl : ∀ R : VK, (∀ a H1, Ex [] H H1 → SqX t K H1 a xs → R (.ref a) H1) → tl σ H R) (hn : xs.length < 100000) (p : Nat → Bool) (f : Nat → V)
    (turn : ∀ (i : Nat) x H', xs[i]? = some x → Ex [] H H' → ∀ (N : VK) (M : Hp → Prop), (p i = true → ∀ H3, Ex [] H' H3 → N (f i) H3) → (p i = false → ∀ H3, Ex [] H' H3 → M H3) →
      g x (wipe σ vs) H' fun σ2 H2 => wipe σ2 vs = wipe σ vs ∧ tt σ2 H2 fun b H3 => if b = true then te σ2 H3 N else M H3)
    (fin : ∀ D H', H D = none → H' D = some (.lst (((List.range xs.length).filter p).map f)) → Ex [] H H' → Q (.ref D) H') : tLc (fun σ H R => iList K tl σ H R ∨ iTup K tl σ H R) g tt te vs σ H Q := by
  have lt : ∀ {i : Nat} {x : V}, xs[i]? = some x → i < xs.length := fun h => by
    obtain ⟨h, _⟩ := List.getElem?_eq_some_iff.mp h
    exact h
  have step : ∀ H1, Ex [] H H1 → ∀ D, H1 D = none → ∀ i x H', xs[i]? = some x → LcF H1 D p f i H' → _ := fun H1 x1 D hD i x H' hx P => lcF_next (g := g) (tt := tt) (te := te) (vs := vs) (σ := σ) hD (by have := lt hx; omega) P (x := x) (turn i x H' hx (x1.trans P.1))
  cases t with
  | false => exact .inl (htl _ fun a H1 x1 hS => ⟨a, rfl, ⟨xs, hS⟩, fun D hD => lc_list (LcF H1 D p f) ⟨Ex.new hD, upd_same⟩ (fun i H' _ P => le_l P.1.le0 hS) (fun i x H' hx P => step H1 x1 D hD i x H' hx P) (fun H' P => fin D H' (x1.free hD) P.2 (x1.trans P.1))⟩)
  | true => exact .inr (htl _ fun a H1 x1 hS => ⟨a, rfl, ⟨xs, hS⟩, fun D hD => lc_tup (LcF H1 D p f) ⟨Ex.new hD, upd_same⟩ (fun i H' _ P => le_t P.1.le0 hS) (fun i x H' hx P => step H1 x1 D hD i x H' hx P) (fun H' P => fin D H' (x1.free hD) P.2 (x1.trans P.1))⟩)
theorem filter_yes {n : Nat} {f : Nat → V} : ((List.range n).filter fun _ => true).map f = (List.range n).map f := by
  rw [List.filter_eq_self.mpr (fun _ _ => rfl)]
/-- .. without a test -/
theorem z_lcP1 {t : Bool} {xs : List V} {tl : TE} {Q : VK} (htl : ∀ R : VK, (∀ a H1, Ex [] H H1 → SqX t K H1 a xs → R (.ref a) H1) → tl σ H R) (hn : xs.length < 100000) (f : Nat → V)
    (turn : ∀ (i : Nat) x H', xs[i]? = some x → Ex [] H H' → ∀ (N : VK), (∀ H3, Ex [] H' H3 → N (f i) H3) → g x (wipe σ vs) H' fun σ2 H2 => wipe σ2 vs = wipe σ vs ∧ te σ2 H2 N)
    (fin : ∀ D H', H D = none → H' D = some (.lst ((List.range xs.length).map f)) → Ex [] H H' → Q (.ref D) H') : tLc (fun σ H R => iList K tl σ H R ∨ iTup K tl σ H R) g tYes te vs σ H Q :=
  z_lcP (t := t) htl hn (fun _ => true) f (fun i x H' hx e N M hN _ => by
    have := turn i x H' hx e N (hN rfl)
    simpa only [tYes, if_true, eq_self] using this) (fun D H' hD hz e => fin D H' hD (by rw [hz, filter_yes]) e)
/-- over a list, with a test -/
theorem z_lcLP {xs : List V} {tl : TE} {Q : VK} (htl : ∀ R : VK, (∀ a H1, Ex [] H H1 → SqL K H1 a xs → R (.ref a) H1) → tl σ H R) (hn : xs.length < 100000) (p : Nat → Bool) (f : Nat → V)
    (turn : ∀ (i : Nat) x H', xs[i]? = some x → Ex [] H H' → ∀ (N : VK) (M : Hp → Prop), (p i = true → ∀ H3, Ex [] H' H3 → N (f i) H3) → (p i = false → ∀ H3, Ex [] H' H3 → M H3) →
      g x (wipe σ vs) H' fun σ2 H2 => wipe σ2 vs = wipe σ vs ∧ tt σ2 H2 fun b H3 => if b = true then te σ2 H3 N else M H3)
    (fin : ∀ D H', H D = none → H' D = some (.lst (((List.range xs.length).filter p).map f)) → Ex [] H H' → Q (.ref D) H') : tLc (iList K tl) g tt te vs σ H Q := by
  have lt : ∀ {i : Nat} {x : V}, xs[i]? = some x → i < xs.length := fun h => by
    obtain ⟨h, _⟩ := List.getElem?_eq_some_iff.mp h
    exact h
  refine htl _ fun a H1 x1 hS => ⟨a, rfl, ⟨xs, hS⟩, fun D hD => lc_list (LcF H1 D p f) ⟨Ex.new hD, upd_same⟩ (fun i H' _ P => le_l P.1.le0 hS) (fun i x H' hx P => ?_) (fun H' P => fin D H' (x1.free hD) P.2 (x1.trans P.1))⟩
  exact lcF_next (g := g) (tt := tt) (te := te) (vs := vs) (σ := σ) hD (by have := lt hx; omega) P (x := x) (turn i x H' hx (x1.trans P.1))
/-- .. over a list -/
theorem z_lcL1 {xs : List V} {tl : TE} {Q : VK} (htl : ∀ R : VK, (∀ a H1, Ex [] H H1 → SqL K H1 a xs → R (.ref a) H1) → tl σ H R) (hn : xs.length < 100000) (f : Nat → V)
    (turn : ∀ (i : Nat) x H', xs[i]? = some x → Ex [] H H' → ∀ (N : VK), (∀ H3, Ex [] H' H3 → N (f i) H3) → g x (wipe σ vs) H' fun σ2 H2 => wipe σ2 vs = wipe σ vs ∧ te σ2 H2 N)
    (fin : ∀ D H', H D = none → H' D = some (.lst ((List.range xs.length).map f)) → Ex [] H H' → Q (.ref D) H') : tLc (iList K tl) g tYes te vs σ H Q := by
  have lt : ∀ {i : Nat} {x : V}, xs[i]? = some x → i < xs.length := fun h => by
    obtain ⟨h, _⟩ := List.getElem?_eq_some_iff.mp h
    exact h
  refine htl _ fun a H1 x1 hS => ⟨a, rfl, ⟨xs, hS⟩, fun D hD => lc_list (LcF H1 D (fun _ => true) f) ⟨Ex.new hD, upd_same⟩ (fun i H' _ P => le_l P.1.le0 hS) (fun i x H' hx P => ?_) (fun H' P => fin D H' (x1.free hD) (by rw [P.2, filter_yes]) (x1.trans P.1))⟩
  refine lcF_next (g := g) (tt := tYes) (te := te) (vs := vs) (σ := σ) hD (by have := lt hx; omega) P (x := x) fun N M hN _ => ?_
  have := turn i x H' hx (x1.trans P.1) N (hN rfl)
  simpa only [tYes, if_true, eq_self] using this
/-- over range -/
theorem z_lcN {n : Nat} {lo : Int} {Q : VK} {wi : TI} (hwi : ∀ R : It → Hp → Prop, (∀ H1, Ex [] H H1 → R (Itr lo n) H1) → wi σ H R) (hn : n < 100000) (f : Nat → V)
    (turn : ∀ (i : Nat) H', i < n → Ex [] H H' → ∀ (N : VK), (∀ H3, Ex [] H' H3 → N (f i) H3) → g (.int (lo + i)) (wipe σ vs) H' fun σ2 H2 => wipe σ2 vs = wipe σ vs ∧ te σ2 H2 N)
    (fin : ∀ D H', H D = none → H' D = some (.lst ((List.range n).map f)) → Ex [] H H' → Q (.ref D) H') : tLc wi g tYes te vs σ H Q :=
  z_lcRF hwi hn (fun _ => true) f (fun H1 x1 i hi D H' hD e nD N M hN _ => by
    have := turn i H' hi (x1.trans e) N (hN rfl)
    simpa only [tYes, if_true, eq_self] using this) (fun H1 x1 D H' hD hz e => fin D H' (x1.free hD) (by rw [hz, filter_yes]) (x1.trans e))
/-- over zip of two lists (two tuples), not always of one length -/
theorem z_lcZN {t : Bool} {xs ys : List V} {n : Nat} {ta : TA} {Q : VK} (hx : n ≤ xs.length) (hy : n ≤ ys.length) (hxy : xs.length = n ∨ ys.length = n) (hn : n < 100000) (hta : ∀ R : List V → Hp → Prop, (∀ a b H1, Ex [] H H1 → SqX t K H1 a xs → SqX t K H1 b ys → R [.ref a, .ref b] H1) → ta σ H R) (f : Nat → V)
    (turn : ∀ (i : Nat) x y T H', xs[i]? = some x → ys[i]? = some y → Ex [] H H' → H' T = some (.tup [x, y]) → ∀ (N : VK), (∀ H3, Ex [] H' H3 → N (f i) H3) → g (.ref T) (wipe σ vs) H' fun σ2 H2 => wipe σ2 vs = wipe σ vs ∧ te σ2 H2 N)
    (fin : ∀ D H', H D = none → H' D = some (.lst ((List.range n).map f)) → Ex [] H H' → Q (.ref D) H') : tLc (RZ.iZipA K ta) g tYes te vs σ H Q := by
  refine hta _ fun a b H1 x1 qx qy => ?_
  have core : ∀ (J0 : It), (∀ i H', i < n → Ex [] H1 H' → J0.go i H') → (∀ H', Ex [] H1 H' → J0.stop n H') →
      (∀ i H' v H'', Ex [] H1 H' → J0.yld i H' v H'' → ∃ T x y, v = .ref T ∧ H' T = none ∧ H'' = upd H' T (.tup [x, y]) ∧ xs[i]? = some x ∧ ys[i]? = some y) →
      ∀ D, H1 D = none → ∃ W : Nat → Nat → Hp → Prop, (∃ m, W 0 m (upd H1 D (.lst []))) ∧ ∀ i m H, W i m H →
      ((J0.stop i H ∧ Q (.ref D) H) ∨ (J0.go i H ∧ ∃ Nx : Hp → Prop, (∀ H', Nx H' → ∃ m', m' < m ∧ W (i + 1) m' H') ∧ ∀ x H', J0.yld i H x H' → g x (wipe σ vs) H' fun σ2 H2 => wipe σ2 vs = wipe σ vs ∧ tYes σ2 H2 fun b H3 =>
        if b = true then te σ2 H3 fun y H4 => ∃ acc, H4 D = some (.lst acc) ∧ acc.length < sizeLine ∧ Nx (upd H4 D (.lst (acc ++ [y]))) else Nx H3)) := fun J0 hgo hstop hyld D hD => by
    refine ⟨fun i m H' => m = n - i ∧ i ≤ n ∧ LcF H1 D (fun _ => true) f i H', ⟨n, rfl, Nat.zero_le _, Ex.new hD, upd_same⟩, ?_⟩
    rintro i m H' ⟨rfl, hi, p⟩
    by_cases hlt : i < n
    · refine .inr ⟨hgo i H' hlt p.1, fun H'' => LcF H1 D (fun _ => true) f (i + 1) H'', fun H'' p' => ⟨n - (i + 1), by omega, rfl, hlt, p'⟩, fun v H'' yl => ?_⟩
      obtain ⟨T, x, y, rfl, hT, rfl, ex, ey⟩ := hyld i H' v H'' p.1 yl
      have xT : Ex [] H' (upd H' T (.tup [x, y])) := Ex.new hT
      have pT : LcF H1 D (fun _ => true) f i (upd H' T (.tup [x, y])) := ⟨p.1.trans xT, xT.1 _ _ (by simp) p.2⟩
      exact lcF_next hD (by omega) pT (x := .ref T) fun N M hN _ => by
        have := turn i x y T _ ex ey (x1.trans pT.1) upd_same N (hN rfl)
        simpa only [tYes, if_true, eq_self] using this
    · have e : i = n := by omega
      subst e
      exact .inl ⟨hstop H' p.1, fin D H' (x1.free hD) (by rw [p.2, filter_yes]) (x1.trans p.1)⟩
  cases t with
  | false =>
    have qx' : ∀ H', Ex [] H1 H' → SqL K H' a xs := fun H' e => le_l e.le0 qx
    have qy' : ∀ H', Ex [] H1 H' → SqL K H' b ys := fun H' e => le_l e.le0 qy
    refine ⟨a, b, xs, ys, rfl, .inl ⟨qx, qy, core (Itz K a b) (fun i H' hi e => ?_) (fun H' e => ?_) (fun i H' v H'' e yl => ?_)⟩⟩
    · exact ⟨xs, ys, _, _, qx' H' e, qy' H' e, List.getElem?_eq_getElem (by omega), List.getElem?_eq_getElem (by omega)⟩
    · exact ⟨xs, ys, qx' H' e, qy' H' e, by omega⟩
    · obtain ⟨T, x, y, rfl, hT, rfl, f1, f2⟩ := yl
      exact ⟨T, x, y, rfl, hT, rfl, f1 xs (qx' H' e), f2 ys (qy' H' e)⟩
  | true =>
    have qx' : ∀ H', Ex [] H1 H' → SqT K H' a xs := fun H' e => le_t e.le0 qx
    have qy' : ∀ H', Ex [] H1 H' → SqT K H' b ys := fun H' e => le_t e.le0 qy
    refine ⟨a, b, xs, ys, rfl, .inr ⟨qx, qy, core (RZ.ItzT K a b) (fun i H' hi e => ?_) (fun H' e => ?_) (fun i H' v H'' e yl => ?_)⟩⟩
    · exact ⟨xs, ys, _, _, qx' H' e, qy' H' e, List.getElem?_eq_getElem (by omega), List.getElem?_eq_getElem (by omega)⟩
    · exact ⟨xs, ys, qx' H' e, qy' H' e, by omega⟩
    · obtain ⟨T, x, y, rfl, hT, rfl, f1, f2⟩ := yl
      exact ⟨T, x, y, rfl, hT, rfl, f1 xs (qx' H' e), f2 ys (qy' H' e)⟩
end
theorem atI_end {xs : List V} {n : Nat} {v : V} (hl : xs.length = n + 1) (h : xs[n]? = some v) : atI xs (-1) = some v := by
  have e : xs = xs.take n ++ [v] := by
    have := List.take_append_drop n xs
    have d : xs.drop n = [v] := by
      have hn : n < xs.length := by omega
      rw [List.drop_eq_getElem_cons hn, List.drop_eq_nil_of_le (by omega)]
      rw [List.getElem?_eq_getElem hn] at h
      rw [Option.some.inj h]
    rw [d] at this
    exact this.symm
  rw [e]
  exact atI_last _ _
theorem cut_tail (xs : List V) (n : Nat) : cutV xs (some (n : Int)) none = xs.drop n := by
  unfold cutV
  rw [HT.sIx_nat, HT.sIx_none]
  by_cases h2 : n ≤ xs.length
  · rw [Nat.min_eq_left h2, List.take_of_length_le]
    rw [List.length_drop]
    omega
  · rw [Nat.min_eq_right (by omega), Nat.sub_self, List.take_zero, List.drop_eq_nil_of_le (by omega)]
section
variable {K : PySem.W.Frag}
/-- tuple + tuple -/
theorem z_catT {H : Hp} {a b : Addr} {xs ys : List V} {Q : VK} (ha : SqT K H a xs) (hb : SqT K H b ys) (hl : xs.length + ys.length ≤ sizeLine) (q : ∀ p H', Ex [] H H' → SqT K H' p (xs ++ ys) → Q (.ref p) H') : rCatA K (.ref a) (.ref b) H Q := by
  refine ⟨a, b, xs, ys, rfl, rfl, ha, hb, hl, fun e => ?_, fun _ e => ?_, fun _ _ p hp => ?_⟩
  · subst e
    exact q b H (Ex.refl _ _) hb
  · subst e
    exact q a H (Ex.refl _ _) (by rwa [List.append_nil])
  · exact q p _ (Ex.new hp) (SqT.of upd_same)
theorem dpt_ints {ns : List Int} (N : Nat) (h : ns.length ≤ 1000) : dpt (N + 1) (.list (ns.map PyData.int)) := ⟨by rw [List.length_map]; exact h, fun d hd => by
  obtain ⟨i, _, rfl⟩ := List.mem_map.mp hd
  cases N <;> trivial⟩
/-- a list of ints as data -/
theorem dp_il {G : Hp} {p : Addr} {ns : List Int} (e : G p = some (.lst (ns.map V.int))) : Dp K G (.ref p) (.list (ns.map PyData.int)) := .lst (SqL.of e) (dpa_of_ints _)
/-- [i] * n -/
theorem z_repI {H : Hp} {l : Addr} {i : Int} {n : Nat} {Q : VK} (h : H l = some (.lst [.int i])) (hn : n ≤ 1000) (q : ∀ p, H p = none → Q (.ref p) (upd H p (.lst ((List.replicate n i).map V.int)))) : rRep (.ref l) (.int n) H Q := by
  refine ⟨l, n, _, rfl, rfl, h, by omega, by omega, ?_, fun p hp => ?_⟩
  · exact sz_of (by rw [List.length_singleton]; omega)
  · have e : (List.replicate (Int.toNat n) [V.int i]).flatten = (List.replicate n i).map V.int := by
      rw [List.flatten_replicate_singleton, List.map_replicate]
      rfl
    rw [e]
    exact q p hp
end
section
variable {K : PySem.W.Frag} {g : TG} {tt : TT} {te : TE} {vs : List Nat} {σ : L2.St} {H : Hp} {Q : VK}
/-- a comprehension over what is told: what tells it goes ahead -/
theorem lc_bindL {tl : TE} (h : tl σ H fun x H1 => tLc (iList K (tC x)) g tt te vs σ H1 Q) : tLc (fun σ H R => iList K tl σ H R ∨ iTup K tl σ H R) g tt te vs σ H Q := .inl h
theorem zip_bind {t1 t2 : TE} (h : t1 σ H fun x H1 => t2 σ H1 fun y H2 => tLc (RZ.iZipA K (tCons (tC x) (tCons (tC y) tNil))) g tt te vs σ H2 Q) : tLc (RZ.iZipA K (tCons t1 (tCons t2 tNil))) g tt te vs σ H Q := h
end
/-- what is told of each item of a list -/
theorem map_at {α : Type} (l : List α) (f : α → V) : (List.range l.length).map (fun i => ((l[i]?).map f).getD .non) = l.map f := by
  refine List.ext_getElem (by simp) fun i h1 h2 => ?_
  rw [List.getElem_map, List.getElem_map, List.getElem_range]
  rw [List.length_map] at h2
  rw [List.getElem?_eq_getElem h2]
  rfl
theorem eqv_int_lists (t : Bool) : ∀ (a b : List Int), PyData.eqv (sq t (a.map PyData.int)) (sq t (b.map PyData.int)) = decide (a = b) := by
  have key : ∀ a b : List Int, PyData.eqvAll (a.map PyData.int) (b.map PyData.int) = decide (a = b) := by
    intro a
    induction a with
    | nil => intro b; cases b <;> simp [PyData.eqvAll]
    | cons n a ih =>
      intro b
      cases b with
      | nil => simp [PyData.eqvAll]
      | cons m b =>
        simp only [List.map_cons, PyData.eqvAll, PyData.eqv, ih, List.cons.injEq]
        by_cases c : n = m <;> by_cases e : a = b <;> simp [c, e]
  intro a b
  cases t
  · show PyData.eqv (.list _) (.list _) = _
    simp only [PyData.eqv, key]
  · show PyData.eqv (.tuple _) (.tuple _) = _
    simp only [PyData.eqv, key]
section
variable {c : TT} {t u rest : TS} {D : Ends} {σ : L2.St} {H : Hp}
theorem seq_asg {e : TE} {g : TG} (h : e σ H fun v H1 => g v σ H1 (rest D)) : tSeq (tAsg e g) rest D σ H := h
theorem seq_for {w : TE} {K : PySem.W.Frag} {g : TG} {tb : TS} (h : ∀ D' : Ends, D' = { D with nx := rest D } → w σ H fun x H1 => ∃ a, x = .ref a ∧ (∃ xs, SqL K H1 a xs) ∧ ∃ W : Nat → Nat → L2.St → Hp → Prop, (∃ m, W 0 m σ H1) ∧ ∀ i m σ H, W i m σ H → ((Itl K a).stop i H ∧ D'.nx σ H) ∨ ((Itl K a).go i H ∧ ∃ N : L2.St → Hp → Prop, (∀ σ' H', N σ' H' → ∃ m', m' < m ∧ W (i + 1) m' σ' H') ∧ ∀ x H', (Itl K a).yld i H x H' → g x σ H' fun σ2 H2 => tb { D' with nx := N, ct := N, bk := D'.nx } σ2 H2)) : tSeq (tFor (iList K w) g tb) rest D σ H := h _ rfl
theorem if_any {K : PySem.W.Frag} {ta : TE} {t u : TS} (h : ta σ H fun x H1 => rAny K [x] H1 fun y H2 => ∃ k, y = .bl k ∧ if k = true then t D σ H2 else u D σ H2) : tIfS (tB (tCB (rAny K) (tCons ta tNil))) t u D σ H := h
theorem asg_join {e : TE} {g : TG} (P : V → Hp → Prop) (h1 : ∀ Q' : VK, (∀ v G, P v G → Q' v G) → e σ H Q') (h2 : ∀ v G, P v G → g v σ G (rest D)) : tSeq (tAsg e g) rest D σ H := h1 _ h2
/-- behind an if both ways go on alike -/
theorem seq_join (P : L2.St → Hp → Prop) (h1 : ∀ N : L2.St → Hp → Prop, (∀ σ' H', P σ' H' → N σ' H') → tIfS c t u { D with nx := N } σ H) (h2 : ∀ σ' H', P σ' H' → rest D σ' H') : tSeq (tIfS c t u) rest D σ H := h1 _ h2
end
end Hz
set_option Elab.async false
set_option linter.all false
set_option maxRecDepth 100000
namespace PySem.W
open PySem PySem.SeqAt PyProof.Rows
section
variable {prog : Program} {w : World} {A : Around} {E : Value → Shared → Prop} {s : Shared}
/-- min of a list of alike data: the item of that place, as it stands -/
theorem min_list_at {l : Addr} {vs : Array Value} {x : PyData} {xs : List PyData} {as : List Addr} {Q : Value → Shared → Prop} (hh : A.handled = none) (hl : s.heap.IsList l vs) (hr : ReadsAll s.heap vs.toList (x :: xs) as) (ha : AlikeAll (x :: xs)) (hu : A.units + 1 + PyData.depthAll (x :: xs) < cLine)
    (h : ∀ (i : Nat) v h' tk, vs[i]? = some v → (x :: xs).getD i .none = minD x xs → (∀ b o, s.heap.get? b = some o → h'.get? b = some o) → Q v { s with heap := h', toks := tk }) :
    wpAny (model prog w) A (call (.builtin "min") [.ref l]) Q E s := by
  have hn : vs.size = xs.length + 1 := readsAll_len hr
  refine call_min_walkH (iter_listW (A := A.in1) hh hl fun s₂ e W st hfp hw hk => ?_)
  refine ⟨_, _, _, _, _, _, _, s.heap, _, rfl, W, st, hfp, by omega, hw, hk, cmpIn_lt (A := A.in1) hr ha (by show A.units + 1 + _ < _; exact hu), fun v s' hP m => ?_⟩
  obtain ⟨h', tk, rfl, hk'⟩ := moved_old e rfl m
  have e1 : vs.size - 1 = xs.length := by omega
  have e2 := (argBest_fold dataLt PyData.none x xs xs.length (Nat.le_refl _)).2
  rw [List.take_length] at e2
  refine h _ v h' tk hP ?_ hk'
  rw [e1]
  exact e2
end
end PySem.W
namespace Hz
open PySem PySem.SeqAt PyProof.Rows L2
/-- a pair as data -/
def pd (q : Int × Int) : PyData := .tuple [.int q.1, .int q.2]
def PLt (q r : Int × Int) : Prop := q.1 < r.1 ∨ q.1 = r.1 ∧ q.2 < r.2
theorem lt_pd (q r : Int × Int) : PySem.W.dataLt (pd q) (pd r) = true ↔ PLt q r := by
  obtain ⟨a, b⟩ := q
  obtain ⟨c, d⟩ := r
  show lexLt itemOrd [.inl 1, .inl a, .inl 1, .inl b, .inl 0] [.inl 1, .inl c, .inl 1, .inl d, .inl 0] = true ↔ (a < c ∨ a = c ∧ b < d)
  have z : ∀ i : Int, itemLt (.inl i) (.inl i) = false := fun i => itemOrd.irrefl (.inl i)
  have t : ∀ i j : Int, itemLt (.inl i) (.inl j) = decide (i < j) := fun _ _ => rfl
  have n : lexLt itemOrd [] [] = false := rfl
  rw [lex_cons, lex_cons, lex_cons, lex_cons, lex_cons, n]
  simp only [z, t, Bool.false_or, Bool.not_false, Bool.true_and, Bool.and_false, Bool.or_false, Bool.or_eq_true, Bool.and_eq_true, decide_eq_true_eq, Bool.not_eq_true', decide_eq_false_iff_not]
  omega
theorem alike_pd (L : List (Int × Int)) : PySem.W.AlikeAll (L.map pd) := ⟨fun x hx y hy => by
  obtain ⟨q, _, rfl⟩ := List.mem_map.mp hx
  obtain ⟨r, _, rfl⟩ := List.mem_map.mp hy
  rfl, fun x hx => by
  obtain ⟨q, _, rfl⟩ := List.mem_map.mp hx
  exact fun z => by cases z⟩
theorem depth_pd : ∀ L : List (Int × Int), PyData.depthAll (L.map pd) ≤ 2
  | [] => Nat.zero_le _
  | q :: L => Nat.max_le.mpr ⟨by simp [pd, PyData.depth, PyData.depthAll], depth_pd L⟩
/-- the least pair -/
def Least (L : List (Int × Int)) (q : Int × Int) : Prop := q ∈ L ∧ ∀ r ∈ L, ¬ PLt r q
theorem least_fold : ∀ (x : Int × Int) (xs : List (Int × Int)), ∃ q, Least (x :: xs) q ∧ PySem.W.minD (pd x) (xs.map pd) = pd q := by
  have go : ∀ (xs : List (Int × Int)) (x : Int × Int) (B : List (Int × Int)), x ∈ B → (∀ r ∈ B, ¬ PLt r x) → ∃ q, q ∈ B ++ xs ∧ (∀ r ∈ B ++ xs, ¬ PLt r q) ∧ PySem.W.minD (pd x) (xs.map pd) = pd q := fun xs => by
    induction xs with
    | nil => intro x B hx hB; exact ⟨x, by rw [List.append_nil]; exact hx, by rw [List.append_nil]; exact hB, rfl⟩
    | cons y ys ih =>
      intro x B hx hB
      by_cases c : PLt y x
      · obtain ⟨q, h1, h2, h3⟩ := ih y (B ++ [y]) (by simp) (fun r hr => by
          rcases List.mem_append.mp hr with h | h
          · have := hB r h
            unfold PLt at *
            omega
          · rw [List.mem_singleton.mp h]
            unfold PLt
            omega)
        refine ⟨q, by simpa using h1, fun r hr => h2 r (by simpa using hr), ?_⟩
        rw [← h3]
        show List.foldl _ (if PySem.W.dataLt (pd y) (pd x) = true then pd y else pd x) _ = _
        rw [if_pos ((lt_pd y x).mpr c)]
        rfl
      · obtain ⟨q, h1, h2, h3⟩ := ih x (B ++ [y]) (List.mem_append_left _ hx) (fun r hr => by
          rcases List.mem_append.mp hr with h | h
          · exact hB r h
          · rw [List.mem_singleton.mp h]
            exact c)
        refine ⟨q, by simpa using h1, fun r hr => h2 r (by simpa using hr), ?_⟩
        rw [← h3]
        show List.foldl _ (if PySem.W.dataLt (pd y) (pd x) = true then pd y else pd x) _ = _
        rw [if_neg (fun z => c ((lt_pd y x).mp z))]
        rfl
  intro x xs
  obtain ⟨q, h1, h2, h3⟩ := go xs x [x] (List.mem_singleton.mpr rfl) (fun r hr => by rw [List.mem_singleton.mp hr]; unfold PLt; omega)
  exact ⟨q, ⟨h1, h2⟩, h3⟩
theorem pd_inj {q r : Int × Int} (h : pd q = pd r) : q = r := by
  obtain ⟨a, b⟩ := q
  obtain ⟨c, d⟩ := r
  unfold pd at h
  injection h with h
  injection h with h1 h2
  injection h2 with h2 _
  injection h1 with h1
  injection h2 with h2
  rw [show a = c from h1, show b = d from h2]
section
variable {X : Cx}
/-- min of a list of pairs: the least one, as it stands -/
def rMinP (K : PySem.W.Frag) : List V → Hp → VK → Prop := fun vs H Q => ∃ (v : V) (L : List (Int × Int)), vs = [v] ∧ Dp K H v (.list (L.map pd)) ∧ L ≠ [] ∧ ∀ z q, Least L q → Dp K H z (pd q) → Q z H
theorem cr_minP (hc : X.calm = true) (hu : X.A.units + 64 < cLine) : CallR X (.builtin "min") (rMinP X.K) := by
  intro pins s σ H vs us Q I r h
  obtain ⟨v, L, rfl, hD, hne, q⟩ := h
  cases hD with
  | lst hS hA =>
  rename_i a xs
  obtain ⟨its, rv, hl, _⟩ := I.list hS
  rw [Vals.ref1 r]
  obtain ⟨as, hr⟩ := Dp.readsAll I _ _ _ hA rv
  obtain ⟨x, ys, rfl⟩ : ∃ x ys, L = x :: ys := by
    cases L with
    | nil => exact absurd rfl hne
    | cons x ys => exact ⟨x, ys, rfl⟩
  have dd : PyData.depthAll ((x :: ys).map pd) ≤ 2 := depth_pd _
  refine PySem.W.min_list_at (x := pd x) (xs := ys.map pd) (I.ok.hd hc) hl.isList (by simpa using hr) (alike_pd (x :: ys)) (Nat.lt_of_le_of_lt (Nat.add_le_add_left dd _) (by omega)) fun i u h' tk hi hm hk => ?_
  obtain ⟨p, hp, ep⟩ := least_fold x ys
  have hi' : its[i]? = some u := by simpa using hi
  obtain ⟨z, hz, rz⟩ : ∃ z, xs[i]? = some z ∧ RelV z u := by
    have hlt : i < xs.length := by
      rw [rv.length]
      exact (List.getElem?_eq_some_iff.mp hi').1
    obtain ⟨u', h1, h2⟩ := rv.get (List.getElem?_eq_getElem hlt)
    rw [hi'] at h1
    cases h1
    exact ⟨_, List.getElem?_eq_getElem hlt, h2⟩
  obtain ⟨d, hd, hDz⟩ := dpa_get' hA hz
  refine ⟨z, H, I.kept hk, rz, q z p hp ?_⟩
  have : ((x :: ys).map pd).getD i .none = d := by rw [List.getD_eq_getElem?_getD, hd]; rfl
  have e3 : (pd x :: ys.map pd).getD i .none = d := this
  rw [← ep, ← hm, e3]
  exact hDz
end
end Hz
set_option Elab.async false
set_option linter.all false
namespace Hz.Win
/-- the least number of which so many are x at least -/
def cl (x s : Int) : Int := -((-x) / s)
theorem cl_le {x s : Int} (s0 : 0 < s) : x ≤ cl x s * s := by
  unfold cl
  have := Int.ediv_mul_le (-x) (Int.ne_of_gt s0)
  rw [Int.neg_mul]
  omega
theorem cl_lt {x s : Int} (s0 : 0 < s) : cl x s * s < x + s := by
  unfold cl
  have := Int.lt_ediv_add_one_mul_self (-x) s0
  rw [Int.add_mul, Int.one_mul] at this
  rw [Int.neg_mul]
  omega
theorem mul_lt_cancel {a b s : Int} (s0 : 0 < s) (h : a * s < b * s) : a < b := by
  rcases Int.lt_or_le a b with c | c
  · exact c
  · have := Int.mul_le_mul_of_nonneg_right c (Int.le_of_lt s0)
    omega
theorem mul_uniq {a b s x : Int} (s0 : 0 < s) (h1 : x ≤ a * s) (h2 : a * s < x + s) (h3 : x ≤ b * s) (h4 : b * s < x + s) : a = b := by
  have c1 : a < b + 1 := mul_lt_cancel s0 (by rw [Int.add_mul, Int.one_mul]; omega)
  have c2 : b < a + 1 := mul_lt_cancel s0 (by rw [Int.add_mul, Int.one_mul]; omega)
  omega
theorem cl_uniq {a x s : Int} (s0 : 0 < s) (h1 : x ≤ a * s) (h2 : a * s < x + s) : cl x s = a := mul_uniq s0 (cl_le s0) (cl_lt s0) h1 h2
theorem mod_at {x M t : Int} (M0 : 0 < M) (h1 : t * M ≤ x) (h2 : x < t * M + M) : x % M = x - t * M ∧ x / M = t := by
  have a := Int.emod_add_mul_ediv x M
  have b := Int.emod_nonneg x (Int.ne_of_gt M0)
  have c := Int.emod_lt_of_pos x M0
  rw [Int.mul_comm] at a
  have e : x / M = t := by
    have c1 : x / M < t + 1 := mul_lt_cancel M0 (by rw [Int.add_mul, Int.one_mul]; omega)
    have c2 : t < x / M + 1 := mul_lt_cancel M0 (by rw [Int.add_mul, Int.one_mul]; omega)
    omega
  rw [e] at a
  exact ⟨by omega, e⟩
/-- n steps lead into the window -/
def Hit (s M h w : Int) (n : Nat) : Prop := h - w ≤ ((n : Int) * s) % M ∧ ((n : Int) * s) % M ≤ h
/-- n is the least such number -/
def First (s M h w : Int) (n : Nat) : Prop := Hit s M h w n ∧ ∀ m, m < n → ¬ Hit s M h w m
theorem first_uniq {s M h w : Int} {n m : Nat} (a : First s M h w n) (b : First s M h w m) : n = m := by
  rcases Nat.lt_trichotomy n m with c | c | c
  · exact absurd a.1 (b.2 n c)
  · exact c
  · exact absurd b.1 (a.2 m c)
theorem first_of {s M h w : Int} {n : Nat} (H : Hit s M h w n) : ∃ m, m ≤ n ∧ First s M h w m := by
  induction n using Nat.strongRecOn with
  | _ n ih =>
    by_cases c : ∃ m, m < n ∧ Hit s M h w m
    · obtain ⟨m, hm, h1⟩ := c
      obtain ⟨k, hk, h2⟩ := ih m hm h1
      exact ⟨k, by omega, h2⟩
    · exact ⟨n, Nat.le_refl _, H, fun m hm z => c ⟨m, hm, z⟩⟩
section
variable {s M h w : Int} (s0 : 0 < s) (sM : s < M) (w0 : 0 ≤ w) (wh : w < h) (hM : h < M)
include s0 sM w0 wh hM
/-- met ahead of around -/
theorem first_flat (r : h % s ≤ w) : ∃ n : Nat, (n : Int) = cl (h - w) s ∧ First s M h w n ∧ (n : Int) * s ≤ h := by
  have a := Int.emod_add_mul_ediv h s
  have b := Int.emod_nonneg h (Int.ne_of_gt s0)
  have c := Int.emod_lt_of_pos h s0
  rw [Int.mul_comm] at a
  have l1 := cl_le (x := h - w) s0
  have l2 := cl_lt (x := h - w) s0
  have l3 : cl (h - w) s ≤ h / s := by
    have : cl (h - w) s < h / s + 1 := mul_lt_cancel s0 (by rw [Int.add_mul, Int.one_mul]; omega)
    omega
  have l4 := Int.mul_le_mul_of_nonneg_right l3 (Int.le_of_lt s0)
  have p0 : 0 < cl (h - w) s := mul_lt_cancel s0 (by rw [Int.zero_mul]; omega)
  obtain ⟨n, hn⟩ : ∃ n : Nat, (n : Int) = cl (h - w) s := ⟨(cl (h - w) s).toNat, by omega⟩
  rw [← hn] at l1 l2 l4
  refine ⟨n, hn, ⟨?_, fun m hm z => ?_⟩, by omega⟩
  · unfold Hit
    rw [(mod_at (t := 0) (x := (n : Int) * s) (by omega) (by rw [Int.zero_mul]; omega) (by rw [Int.zero_mul]; omega)).1, Int.zero_mul]
    omega
  · have e1 : ((m : Int) + 1) * s ≤ (n : Int) * s := Int.mul_le_mul_of_nonneg_right (by omega) (Int.le_of_lt s0)
    rw [Int.add_mul, Int.one_mul] at e1
    have e2 : 0 ≤ (m : Int) * s := Int.mul_nonneg (by omega) (by omega)
    unfold Hit at z
    rw [(mod_at (t := 0) (x := (m : Int) * s) (by omega) (by rw [Int.zero_mul]; omega) (by rw [Int.zero_mul]; omega)).1, Int.zero_mul] at z
    omega
/-- no steps lead there ahead of around -/
theorem flat_no (r : w < h % s) {n : Nat} (l : (n : Int) * s < M) : ¬ Hit s M h w n := fun z => by
  have e2 : 0 ≤ (n : Int) * s := Int.mul_nonneg (by omega) (by omega)
  unfold Hit at z
  rw [(mod_at (t := 0) (x := (n : Int) * s) (by omega) (by rw [Int.zero_mul]; omega) (by rw [Int.zero_mul]; omega)).1, Int.zero_mul] at z
  have c := Int.emod_lt_of_pos h s0
  have := (mod_at (x := h) (M := s) (t := n) s0 (by omega) (by omega)).1
  omega
/-- so many times around: there's a number of steps -/
theorem up (r : w < h % s) {t : Nat} (l : ((t : Int) * M + h) % s ≤ w) : ∃ n : Nat, (n : Int) = cl ((t : Int) * M + h - w) s ∧ Hit s M h w n ∧ (t : Int) * M ≤ (n : Int) * s ∧ (n : Int) * s < (t : Int) * M + M := by
  have a := Int.emod_add_mul_ediv ((t : Int) * M + h) s
  have b := Int.emod_nonneg ((t : Int) * M + h) (Int.ne_of_gt s0)
  have c := Int.emod_lt_of_pos h s0
  have t0 : 0 ≤ (t : Int) * M := Int.mul_nonneg (by omega) (by omega)
  rw [Int.mul_comm s] at a
  have e : cl ((t : Int) * M + h - w) s = ((t : Int) * M + h) / s := cl_uniq s0 (by omega) (by omega)
  have p0 : 0 ≤ ((t : Int) * M + h) / s := Int.ediv_nonneg (by omega) (by omega)
  obtain ⟨n, hn⟩ : ∃ n : Nat, (n : Int) = ((t : Int) * M + h) / s := ⟨(((t : Int) * M + h) / s).toNat, by omega⟩
  rw [← hn] at a
  refine ⟨n, by rw [hn, e], ?_, by omega, by omega⟩
  unfold Hit
  rw [(mod_at (t := t) (x := (n : Int) * s) (by omega) (by omega) (by omega)).1]
  omega
/-- .. and how many times around are gone is told of the steps -/
theorem down (r : w < h % s) {n : Nat} (z : Hit s M h w n) : ∃ t : Nat, ((t : Int) * M + h) % s ≤ w ∧ (n : Int) = cl ((t : Int) * M + h - w) s ∧ (t : Int) * M ≤ (n : Int) * s ∧ (n : Int) * s < (t : Int) * M + M := by
  have n0 : 0 ≤ (n : Int) * s := Int.mul_nonneg (by omega) (by omega)
  have a := Int.emod_add_mul_ediv ((n : Int) * s) M
  have b := Int.emod_nonneg ((n : Int) * s) (show M ≠ 0 by omega)
  have c := Int.emod_lt_of_pos ((n : Int) * s) (show 0 < M by omega)
  have d := Int.emod_lt_of_pos h s0
  rw [Int.mul_comm M] at a
  have p0 : 0 ≤ ((n : Int) * s) / M := Int.ediv_nonneg n0 (by omega)
  obtain ⟨t, ht⟩ : ∃ t : Nat, (t : Int) = ((n : Int) * s) / M := ⟨(((n : Int) * s) / M).toNat, by omega⟩
  unfold Hit at z
  rw [← ht] at a
  have e := mod_at (x := (t : Int) * M + h) (M := s) (t := n) s0 (by omega) (by omega)
  refine ⟨t, by rw [e.1]; omega, (cl_uniq s0 (by omega) (by omega)).symm, by omega, by omega⟩
end
theorem mod2 {x s : Int} (a : 0 ≤ x) (b : x < 2 * s) : x % s = if x < s then x else x - s := by
  by_cases c : x < s
  · rw [if_pos c]
    exact Int.emod_eq_of_lt a c
  · rw [if_neg c, (mod_at (x := x) (M := s) (t := 1) (by omega) (by omega) (by omega)).1]
    omega
theorem mul_mod (t M s : Int) : (t * (M % s)) % s = (t * M) % s := by
  rw [Int.mul_emod t M, Int.mul_emod t (M % s), Int.emod_emod_of_dvd _ (Int.dvd_refl s)]
theorem neg_mod {x s : Int} (s0 : 0 < s) (c : Int) : (c * s - x) % s = if x % s = 0 then 0 else s - x % s := by
  have a := Int.emod_add_mul_ediv x s
  have b := Int.emod_nonneg x (Int.ne_of_gt s0)
  have d := Int.emod_lt_of_pos x s0
  rw [Int.mul_comm] at a
  by_cases z : x % s = 0
  · rw [if_pos z, (mod_at (x := c * s - x) (M := s) (t := c - x / s) s0 (by rw [Int.sub_mul]; omega) (by rw [Int.sub_mul]; omega)).1, Int.sub_mul]
    omega
  · rw [if_neg z, (mod_at (x := c * s - x) (M := s) (t := c - x / s - 1) s0 (by rw [Int.sub_mul, Int.sub_mul]; omega) (by rw [Int.sub_mul, Int.sub_mul]; omega)).1, Int.sub_mul, Int.sub_mul]
    omega
section
variable {s M h w : Int} (s0 : 0 < s) (w0 : 0 ≤ w) (r : w < h % s)
include s0 w0 r
/-- the smaller ring -/
theorem low1 (t : Nat) : Hit (M % s) s (s - h % s + w) w t ↔ ((t : Int) * M + h) % s ≤ w := by
  unfold Hit
  rw [mul_mod, Int.add_emod]
  have a := Int.emod_nonneg ((t : Int) * M) (Int.ne_of_gt s0)
  have b := Int.emod_lt_of_pos ((t : Int) * M) s0
  have c := Int.emod_lt_of_pos h s0
  have d := Int.emod_nonneg h (Int.ne_of_gt s0)
  rw [mod2 (x := ((t : Int) * M) % s + h % s) (by omega) (by omega)]
  split <;> omega
/-- .. seen from behind -/
theorem low2 (t : Nat) : Hit (s - M % s) s (h % s) w t ↔ ((t : Int) * M + h) % s ≤ w := by
  unfold Hit
  rw [Int.mul_sub, neg_mod s0, mul_mod, Int.add_emod]
  have a := Int.emod_nonneg ((t : Int) * M) (Int.ne_of_gt s0)
  have b := Int.emod_lt_of_pos ((t : Int) * M) s0
  have c := Int.emod_lt_of_pos h s0
  have d := Int.emod_nonneg h (Int.ne_of_gt s0)
  rw [mod2 (x := ((t : Int) * M) % s + h % s) (by omega) (by omega)]
  split <;> split <;> omega
end
/-- a ring: the step, around, where its windows end -/
structure Pb where
  s : Int
  M : Int
  hs : List Int
section
variable {ws : List Int} {p p' : Pb}
structure Wf (ws : List Int) (p : Pb) : Prop where
  s0 : 0 ≤ p.s
  sM : p.s < p.M
  len : p.hs.length = ws.length
  win : ∀ {j : Nat} {h w : Int}, p.hs[j]? = some h → ws[j]? = some w → 0 ≤ w ∧ w < h ∧ h < p.M
/-- n is the least number of steps that leads into the window of place j -/
def At (ws : List Int) (p : Pb) (n j : Nat) : Prop := ∃ h w, p.hs[j]? = some h ∧ ws[j]? = some w ∧ First p.s p.M h w n
/-- what is found: all places of the least number of steps, perhaps others -/
structure Good (ws : List Int) (p : Pb) (f : List (Nat × Nat)) : Prop where
  ne : f ≠ []
  at_ : ∀ {q : Nat × Nat}, q ∈ f → At ws p q.1 q.2
  all : ∀ {n j : Nat}, At ws p n j → (∀ q ∈ f, n ≤ q.1) → (n, j) ∈ f
/-- p' is the smaller ring of p -/
structure Low (ws : List Int) (p p' : Pb) : Prop where
  wf : Wf ws p
  pos : 0 < p.s
  no : ∀ {j : Nat} {h w : Int}, p.hs[j]? = some h → ws[j]? = some w → w < h % p.s
  wf' : Wf ws p'
  around : p'.M = p.s
  hit : ∀ {j : Nat} {h w h' : Int}, p.hs[j]? = some h → ws[j]? = some w → p'.hs[j]? = some h' → ∀ t, Hit p'.s p'.M h' w t ↔ ((t : Int) * p.M + h) % p.s ≤ w
theorem Wf.other (f : Wf ws p) (f' : Wf ws p') {j : Nat} {h : Int} (e : p.hs[j]? = some h) : ∃ h', p'.hs[j]? = some h' := by
  obtain ⟨l, _⟩ := List.getElem?_eq_some_iff.mp e
  exact ⟨_, List.getElem?_eq_getElem (by have := f.len; have := f'.len; omega)⟩
theorem Low.at_up (L : Low ws p p') {t j : Nat} (a : At ws p' t j) : ∃ h w n, p.hs[j]? = some h ∧ ws[j]? = some w ∧ (n : Nat) = cl ((t : Int) * p.M + h - w) p.s ∧ At ws p n j ∧ (t : Int) * p.M ≤ (n : Int) * p.s ∧ (n : Int) * p.s < (t : Int) * p.M + p.M := by
  obtain ⟨h', w, e', ew, F⟩ := a
  obtain ⟨h, e⟩ := L.wf'.other L.wf e'
  obtain ⟨w0, wh, hM⟩ := L.wf.win e ew
  have r := L.no e ew
  obtain ⟨n, hn, H, b1, b2⟩ := up L.pos L.wf.sM w0 wh hM r ((L.hit e ew e' t).mp F.1)
  refine ⟨h, w, n, e, ew, hn, ⟨h, w, e, ew, H, fun m hm z => ?_⟩, b1, b2⟩
  obtain ⟨t2, l2, hm2, c1, c2⟩ := down L.pos L.wf.sM w0 wh hM r z
  have M0 : 0 < p.M := by have := L.wf.sM; have := L.wf.s0; omega
  have mn : ((m : Int) + 1) * p.s ≤ (n : Int) * p.s := Int.mul_le_mul_of_nonneg_right (by omega) L.wf.s0
  rw [Int.add_mul, Int.one_mul] at mn
  have : (t2 : Int) < t + 1 := mul_lt_cancel M0 (by rw [Int.add_mul, Int.one_mul]; have := L.pos; omega)
  by_cases c : t2 < t
  · exact F.2 t2 c ((L.hit e ew e' t2).mpr l2)
  · have : t2 = t := by omega
    subst this
    have := L.pos
    omega
theorem Low.at_down (L : Low ws p p') {n j : Nat} (a : At ws p n j) : ∃ t h w, At ws p' t j ∧ p.hs[j]? = some h ∧ ws[j]? = some w ∧ (n : Int) = cl ((t : Int) * p.M + h - w) p.s ∧ (t : Int) * p.M ≤ (n : Int) * p.s ∧ (n : Int) * p.s < (t : Int) * p.M + p.M := by
  obtain ⟨h, w, e, ew, F⟩ := a
  obtain ⟨h', e'⟩ := L.wf.other L.wf' e
  obtain ⟨w0, wh, hM⟩ := L.wf.win e ew
  have r := L.no e ew
  obtain ⟨t, l, hn, b1, b2⟩ := down L.pos L.wf.sM w0 wh hM r F.1
  refine ⟨t, h, w, ⟨h', w, e', ew, (L.hit e ew e' t).mpr l, fun t2 ht z => ?_⟩, e, ew, hn, b1, b2⟩
  obtain ⟨m, hm, H, c1, c2⟩ := up L.pos L.wf.sM w0 wh hM r ((L.hit e ew e' t2).mp z)
  refine F.2 m ?_ H
  have : ((t2 : Int) + 1) * p.M ≤ (t : Int) * p.M := Int.mul_le_mul_of_nonneg_right (by omega) (by have := L.wf.sM; have := L.wf.s0; omega)
  rw [Int.add_mul, Int.one_mul] at this
  have : (m : Int) < n := mul_lt_cancel L.pos (by omega)
  omega
/-- from the smaller ring back -/
def back (ws : List Int) (p : Pb) (m : Nat) (f : List (Nat × Nat)) : List (Nat × Nat) :=
  (f.filter fun q => decide (q.1 = m)).map fun q => ((cl ((q.1 : Int) * p.M + p.hs[q.2]?.getD 0 - ws[q.2]?.getD 0) p.s).toNat, q.2)
theorem Low.good (L : Low ws p p') {f : List (Nat × Nat)} (g : Good ws p' f) {q0 : Nat × Nat} (h0 : q0 ∈ f) (hm : ∀ q ∈ f, q0.1 ≤ q.1) : Good ws p (back ws p q0.1 f) := by
  have mem : ∀ q, q ∈ back ws p q0.1 f → ∃ t, (q0.1 = t) ∧ (t, q.2) ∈ f ∧ (q.1 : Int) = cl ((t : Int) * p.M + p.hs[q.2]?.getD 0 - ws[q.2]?.getD 0) p.s ∧ At ws p q.1 q.2 ∧ (q.1 : Int) * p.s < (t : Int) * p.M + p.M := fun q hq => by
    obtain ⟨⟨t, j⟩, hr, rfl⟩ := List.mem_map.mp hq
    obtain ⟨hr1, hr2⟩ := List.mem_filter.mp hr
    have et : t = q0.1 := of_decide_eq_true hr2
    obtain ⟨h, w, n, e, ew, hn, A, b1, b2⟩ := L.at_up (t := t) (j := j) (g.at_ hr1)
    refine ⟨t, et.symm, hr1, ?_, ?_, ?_⟩
    · show (((cl _ _).toNat : Nat) : Int) = _
      rw [e, ew]
      show (((cl ((t : Int) * p.M + h - w) p.s).toNat : Nat) : Int) = cl ((t : Int) * p.M + h - w) p.s
      omega
    · show At ws p ((cl _ _).toNat) j
      rw [e, ew]
      show At ws p ((cl ((t : Int) * p.M + h - w) p.s).toNat) j
      rw [show (cl ((t : Int) * p.M + h - w) p.s).toNat = n by omega]
      exact A
    · show (((cl _ _).toNat : Nat) : Int) * p.s < _
      rw [e, ew]
      show (((cl ((t : Int) * p.M + h - w) p.s).toNat : Nat) : Int) * p.s < _
      rw [show (cl ((t : Int) * p.M + h - w) p.s).toNat = n by omega]
      exact b2
  have put : ∀ {t j : Nat} {h w : Int} {n : Nat}, (t, j) ∈ f → t = q0.1 → p.hs[j]? = some h → ws[j]? = some w → (n : Int) = cl ((t : Int) * p.M + h - w) p.s → (n, j) ∈ back ws p q0.1 f := fun {t j h w n} hm1 et e ew hn => by
    refine List.mem_map.mpr ⟨(t, j), List.mem_filter.mpr ⟨hm1, decide_eq_true et⟩, ?_⟩
    show ((cl ((t : Int) * p.M + p.hs[j]?.getD 0 - ws[j]?.getD 0) p.s).toNat, j) = _
    rw [e, ew]
    show ((cl ((t : Int) * p.M + h - w) p.s).toNat, j) = _
    rw [← hn]
    rfl
  obtain ⟨h, w, n0, e, ew, hn0, A0, b1, b2⟩ := L.at_up (g.at_ h0)
  have in0 := put (t := q0.1) (j := q0.2) h0 rfl e ew hn0
  have M0 : 0 < p.M := by have := L.wf.sM; have := L.wf.s0; omega
  refine ⟨fun z => (by rw [z] at in0; cases in0), fun {q} hq => ?_, fun {n j} a l => ?_⟩
  · obtain ⟨t, _, _, _, A, _⟩ := mem q hq
    exact A
  · obtain ⟨t, h, w, A, e, ew, hn, c1, c2⟩ := L.at_down a
    have l0 : (n : Int) ≤ n0 := by exact_mod_cast l _ in0
    have l1 : (n : Int) * p.s ≤ (n0 : Int) * p.s := Int.mul_le_mul_of_nonneg_right l0 L.wf.s0
    have lt : (t : Int) < (q0.1 : Int) + 1 := mul_lt_cancel M0 (by rw [Int.add_mul, Int.one_mul]; omega)
    have in1 := g.all A fun q hq => by have := hm q hq; omega
    have : q0.1 ≤ t := hm _ in1
    exact put in1 (by omega) e ew hn
theorem Low.none (L : Low ws p p') (z : ∀ n j, ¬ At ws p' n j) : ∀ n j, ¬ At ws p n j := fun n j a => by
  obtain ⟨t, _, _, A, _⟩ := L.at_down a
  exact z t j A
theorem Low.of1 (f : Wf ws p) (pos : 0 < p.s) (no : ∀ {j : Nat} {h w : Int}, p.hs[j]? = some h → ws[j]? = some w → w < h % p.s) {hs' : List Int} (el : hs'.length = ws.length)
    (e : ∀ {j : Nat} {h w h' : Int}, p.hs[j]? = some h → ws[j]? = some w → hs'[j]? = some h' → h' = p.s - h % p.s + w) : Low ws p ⟨p.M % p.s, p.s, hs'⟩ where
  wf := f
  pos := pos
  no := no
  wf' := ⟨Int.emod_nonneg _ (Int.ne_of_gt pos), Int.emod_lt_of_pos _ pos, el, fun {j h' w} e' ew => by
    have e' : hs'[j]? = some h' := e'
    obtain ⟨h, eh⟩ : ∃ h, p.hs[j]? = some h := by
      obtain ⟨l, _⟩ := List.getElem?_eq_some_iff.mp ew
      exact ⟨_, List.getElem?_eq_getElem (by have := f.len; omega)⟩
    have := e eh ew e'
    have := no eh ew
    have := f.win eh ew
    have := Int.emod_lt_of_pos h pos
    show 0 ≤ w ∧ w < h' ∧ h' < p.s
    omega⟩
  around := rfl
  hit := fun {j h w h'} eh ew e' t => by
    cases e eh ew e'
    exact low1 pos (f.win eh ew).1 (no eh ew) t
theorem Low.of2 (f : Wf ws p) (pos : 0 < p.s) (no : ∀ {j : Nat} {h w : Int}, p.hs[j]? = some h → ws[j]? = some w → w < h % p.s) (m0 : 0 < p.M % p.s) {hs' : List Int} (el : hs'.length = ws.length)
    (e : ∀ {j : Nat} {h w h' : Int}, p.hs[j]? = some h → ws[j]? = some w → hs'[j]? = some h' → h' = h % p.s) : Low ws p ⟨p.s - p.M % p.s, p.s, hs'⟩ where
  wf := f
  pos := pos
  no := no
  wf' := ⟨by show 0 ≤ p.s - p.M % p.s; have := Int.emod_lt_of_pos p.M pos; omega, by show p.s - p.M % p.s < p.s; omega, el, fun {j h' w} e' ew => by
    have e' : hs'[j]? = some h' := e'
    obtain ⟨h, eh⟩ : ∃ h, p.hs[j]? = some h := by
      obtain ⟨l, _⟩ := List.getElem?_eq_some_iff.mp ew
      exact ⟨_, List.getElem?_eq_getElem (by have := f.len; omega)⟩
    have := e eh ew e'
    have := no eh ew
    have := f.win eh ew
    have := Int.emod_lt_of_pos h pos
    show 0 ≤ w ∧ w < h' ∧ h' < p.s
    omega⟩
  around := rfl
  hit := fun {j h w h'} eh ew e' t => by
    cases e eh ew e'
    exact low2 pos (f.win eh ew).1 (no eh ew) t
/-- what is found in a ring with windows met ahead of around -/
theorem good_flat (f : Wf ws p) (pos : 0 < p.s) {ps : List Nat} (ne : ps ≠ []) (mem : ∀ j, j ∈ ps ↔ ∃ h w, p.hs[j]? = some h ∧ ws[j]? = some w ∧ h % p.s ≤ w) :
    Good ws p (ps.map fun j => ((cl (p.hs[j]?.getD 0 - ws[j]?.getD 0) p.s).toNat, j)) := by
  have put : ∀ j, j ∈ ps → ∃ h w n, p.hs[j]? = some h ∧ ws[j]? = some w ∧ (n : Nat) = cl (h - w) p.s ∧ First p.s p.M h w n ∧ (n : Int) * p.s ≤ h ∧ (n, j) ∈ ps.map fun j => ((cl (p.hs[j]?.getD 0 - ws[j]?.getD 0) p.s).toNat, j) := fun j hj => by
    obtain ⟨h, w, e, ew, r⟩ := (mem j).mp hj
    obtain ⟨w0, wh, hM⟩ := f.win e ew
    obtain ⟨n, hn, F, l⟩ := first_flat pos f.sM w0 wh hM r
    refine ⟨h, w, n, e, ew, hn, F, l, List.mem_map.mpr ⟨j, hj, ?_⟩⟩
    rw [e, ew]
    show ((cl (h - w) p.s).toNat, j) = _
    rw [← hn]
    rfl
  refine ⟨fun z => ne (List.map_eq_nil_iff.mp z), fun {q} hq => ?_, fun {n j} a l => ?_⟩
  · obtain ⟨j, hj, rfl⟩ := List.mem_map.mp hq
    obtain ⟨h, w, n, e, ew, hn, F, _, _⟩ := put j hj
    refine ⟨h, w, e, ew, ?_⟩
    show First p.s p.M h w ((cl (p.hs[j]?.getD 0 - ws[j]?.getD 0) p.s).toNat)
    rw [e, ew]
    show First p.s p.M h w ((cl (h - w) p.s).toNat)
    rw [show (cl (h - w) p.s).toNat = n by omega]
    exact F
  · obtain ⟨h, w, e, ew, F⟩ := a
    obtain ⟨w0, wh, hM⟩ := f.win e ew
    by_cases c : j ∈ ps
    · obtain ⟨h1, w1, n1, e1, ew1, hn1, F1, _, m1⟩ := put j c
      rw [e] at e1
      rw [ew] at ew1
      cases e1
      cases ew1
      rw [first_uniq F F1]
      exact m1
    · exfalso
      obtain ⟨j0, hj0⟩ := List.exists_mem_of_ne_nil _ ne
      obtain ⟨h1, w1, n1, e1, ew1, hn1, F1, l1, m1⟩ := put j0 hj0
      have l2 : (n : Int) ≤ n1 := by exact_mod_cast l _ m1
      have l3 : (n : Int) * p.s ≤ (n1 : Int) * p.s := Int.mul_le_mul_of_nonneg_right l2 f.s0
      have := f.win e1 ew1
      refine flat_no pos f.sM w0 wh hM (Int.lt_of_not_ge fun r => c ((mem j).mpr ⟨h, w, e, ew, r⟩)) (by omega) F.1
theorem none_zero (f : Wf ws p) (z : p.s = 0) : ∀ n j, ¬ At ws p n j := fun n j a => by
  obtain ⟨h, w, e, ew, F⟩ := a
  obtain ⟨w0, wh, hM⟩ := f.win e ew
  have := F.1
  unfold Hit at this
  rw [z, Int.mul_zero, Int.zero_emod] at this
  omega
end
end Hz.Win
set_option Elab.async false
set_option linter.all false
set_option maxRecDepth 100000
namespace Hz
open PySem PyProof.Rows L2
variable {K : PySem.W.Frag}
section
variable {g : TG} {tt : TT} {te : TE} {vs : List Nat} {σ : L2.St} {H : Hp}
/-- a comprehension over enumerate(list), with a test -/
theorem z_lcE {xs : List V} {ta : TA} {Q : VK} (hta : ∀ R : List V → Hp → Prop, (∀ a H1, Ex [] H H1 → SqL K H1 a xs → R [.ref a] H1) → ta σ H R) (hn : xs.length < 100000) (p : Nat → Bool) (f : Nat → V)
    (turn : ∀ (i : Nat) x T H', xs[i]? = some x → Ex [] H H' → H' T = some (.tup [.int (i : Nat), x]) → ∀ (N : VK) (M : Hp → Prop), (p i = true → ∀ H3, Ex [] H' H3 → N (f i) H3) → (p i = false → ∀ H3, Ex [] H' H3 → M H3) →
      g (.ref T) (wipe σ vs) H' fun σ2 H2 => wipe σ2 vs = wipe σ vs ∧ tt σ2 H2 fun b H3 => if b = true then te σ2 H3 N else M H3)
    (fin : ∀ D H', H D = none → H' D = some (.lst (((List.range xs.length).filter p).map f)) → Ex [] H H' → Q (.ref D) H') : tLc (iEnum K ta) g tt te vs σ H Q := by
  refine hta _ fun a H1 x1 hS => ⟨a, xs, rfl, hS, fun D hD => lc_it (walk_enum (K := K) (a := a) (xs := xs)) (LcF H1 D p f) ⟨Ex.new hD, upd_same⟩ (fun i H' _ P => le_l P.1.le0 hS) (fun i x H' H'' hi P y => ?_) (fun H' P => fin D H' (x1.free hD) P.2 (x1.trans P.1))⟩
  obtain ⟨T, u, z, rfl, hT, rfl, e1, e2⟩ := y
  cases e1
  have y1 := Ex.new (B := []) (o := HO.tup [.int (i : Nat), z]) hT
  exact lcF_next (g := g) (tt := tt) (te := te) (vs := vs) (σ := σ) hD (by omega) ⟨P.1.trans y1, y1.get (by simp) P.2⟩ (turn i z T _ e2 (x1.trans (P.1.trans y1)) upd_same)
end
theorem range_bind {α β : Type} (l : List α) (h : α → Option β) : (List.range l.length).filterMap (fun i => (l[i]?).bind h) = l.filterMap h := by
  have e : (List.range l.length).filterMap (fun i => l[i]?) = l := by
    have h : ∀ n, n ≤ l.length → (List.range n).filterMap (fun i => l[i]?) = l.take n := fun n => by
      induction n with
      | zero => intro _; simp
      | succ n ih =>
        intro hn
        rw [List.range_succ, List.filterMap_append, ih (by omega), List.take_add_one]
        congr 1
    rw [h _ (Nat.le_refl _), List.take_length]
  conv => rhs; rw [← e]
  rw [List.filterMap_filterMap]
/-! ### rings of windows, as the heap holds them -/
namespace Win
/-- a ring behind another -/
inductive Ch (ws : List Int) (o : Pb) : List Pb → Pb → Prop
  | nil : Ch ws o [] o
  | snoc {gs : List Pb} {g g' : Pb} : Ch ws o gs g → Low ws g g' → Ch ws o (gs ++ [g]) g'
theorem Ch.zero {ws : List Int} {o g : Pb} (c : Ch ws o [] g) : g = o := by
  generalize e : ([] : List Pb) = l at c
  cases c with
  | nil => rfl
  | snoc _ _ => exact absurd e.symm (by simp)
theorem Ch.last {ws : List Int} {o g' : Pb} {gs : List Pb} (c : Ch ws o gs g') (h : 0 < gs.length) : ∃ gs1 g, gs = gs1 ++ [g] ∧ Ch ws o gs1 g ∧ Low ws g g' := by
  cases c with
  | nil => exact absurd h (by simp)
  | snoc c l => exact ⟨_, _, rfl, c, l⟩
theorem Ch.none {ws : List Int} {o : Pb} : ∀ {gs : List Pb} {g : Pb}, Ch ws o gs g → (∀ n j, ¬ At ws g n j) → ∀ n j, ¬ At ws o n j
  | _, _, .nil, z => z
  | _, _, .snoc c l, z => c.none (l.none z)
theorem first_lt {s M h w : Int} {n : Nat} (M0 : 0 < M) (F : First s M h w n) : (n : Int) < M := by
  rcases Int.lt_or_le (n : Int) M with c | c
  · exact c
  · exfalso
    obtain ⟨m, hm⟩ : ∃ m : Nat, (m : Int) = n - M := ⟨((n : Int) - M).toNat, by omega⟩
    refine F.2 m (by omega) ?_
    have : ((m : Int) * s) % M = ((n : Int) * s) % M := by
      rw [hm, Int.sub_mul, Int.sub_mul_emod_self_left]
    unfold Hit
    rw [this]
    exact F.1
/-- the least pair -/
def LAt (ws : List Int) (p : Pb) (n j : Nat) : Prop := At ws p n j ∧ ∀ n' j', At ws p n' j' → n < n' ∨ n = n' ∧ j ≤ j'
def cst (q : Nat × Nat) : Int × Int := (q.1, q.2)
theorem least_at {ws : List Int} {p : Pb} {f : List (Nat × Nat)} (g : Good ws p f) {q : Int × Int} (l : Least (f.map cst) q) : ∃ n j : Nat, q = ((n : Int), (j : Int)) ∧ (n, j) ∈ f ∧ LAt ws p n j := by
  obtain ⟨h1, h2⟩ := l
  obtain ⟨⟨n, j⟩, hm, rfl⟩ := List.mem_map.mp h1
  have le : ∀ r ∈ f, n < r.1 ∨ n = r.1 ∧ j ≤ r.2 := fun r hr => by
    have := h2 _ (List.mem_map.mpr ⟨r, hr, rfl⟩)
    unfold PLt cst at this
    simp only at this
    omega
  refine ⟨n, j, rfl, hm, g.at_ hm, fun n' j' a => ?_⟩
  by_cases c : n < n'
  · exact .inl c
  · have in1 := g.all a fun r hr => by
      have := le r hr
      omega
    have := le _ in1
    simp only at this
    omega
def ringD (p : Pb) : PyData := .tuple [.int p.s, .int p.M, .list (p.hs.map PyData.int)]
end Win
end Hz
set_option Elab.async false
set_option linter.all false
namespace Hz
open PySem
/-- how a hill stands -/
structure Now where
  day : Nat
  ant : Nat
  pot : Int
namespace Hill
def need (h : Hill) (i : Nat) : Int := (h.needs[i]?).getD 0
structure At (h : Hill) (s : Now) : Prop where
  op : h.isOpen s.day = true
  an : s.ant < h.needs.length
  p0 : 0 ≤ s.pot
  p1 : s.pot ≤ h.most
/-- what the pot would hold, one need taken, on evening m -/
def over (h : Hill) (s : Now) (m : Nat) : Int := s.pot + h.given m - h.given s.day - h.need s.ant
/-- the evening of the next turn -/
def Eve (h : Hill) (s : Now) (m : Nat) : Prop := s.day ≤ m ∧ h.isOpen m = true ∧ 0 ≤ h.over s m ∧ ∀ k, s.day ≤ k → k < m → h.isOpen k = true → h.over s k < 0
theorem eve_uniq {h : Hill} {s : Now} {a b : Nat} (x : h.Eve s a) (y : h.Eve s b) : a = b := by
  obtain ⟨x1, x2, x3, x4⟩ := x
  obtain ⟨y1, y2, y3, y4⟩ := y
  rcases Nat.lt_trichotomy a b with c | c | c
  · have := y4 a x1 c x2; omega
  · exact c
  · have := x4 b y1 c y2; omega
def goes (h : Hill) (s : Now) (m : Nat) : Now × Int := (⟨m, (s.ant + 1) % h.needs.length, min (h.over s m) h.most⟩, h.over s m - min (h.over s m) h.most)
def Turn (h : Hill) (s : Now) (r : Now × Int) : Prop := ∃ m, h.Eve s m ∧ r = h.goes s m
theorem turn_uniq {h : Hill} {s : Now} {a b : Now × Int} (x : h.Turn s a) (y : h.Turn s b) : a = b := by
  obtain ⟨m, x, rfl⟩ := x
  obtain ⟨n, y, rfl⟩ := y
  rw [eve_uniq x y]
theorem turn_at {h : Hill} {s : Now} {r : Now × Int} (hm : 0 ≤ h.most) (a : h.At s) (x : h.Turn s r) : h.At r.1 := by
  obtain ⟨m, ⟨x1, x2, x3, x4⟩, rfl⟩ := x
  exact ⟨x2, Nat.mod_lt _ (by have := a.an; omega), Int.le_min.mpr ⟨x3, hm⟩, Int.min_le_right _ _⟩
/-- a row of turns -/
def Rows (h : Hill) : Now → List (Now × Int) → Prop
  | _, [] => True
  | s, r :: l => h.Turn s r ∧ Rows h r.1 l
theorem rows_uniq {h : Hill} : ∀ {l l' : List (Now × Int)} {s : Now}, h.Rows s l → h.Rows s l' → l.length = l'.length → l = l'
  | [], [], _, _, _, _ => rfl
  | [], _ :: _, _, _, _, e => by simp at e
  | _ :: _, [], _, _, _, e => by simp at e
  | a :: l, b :: l', s, x, y, e => by
    obtain rfl := turn_uniq x.1 y.1
    rw [rows_uniq x.2 y.2 (by simpa using e)]
/-- how all stands behind a row -/
def lastOf (s : Now) : List (Now × Int) → Now
  | [] => s
  | r :: l => lastOf r.1 l
theorem rows_at {h : Hill} (hm : 0 ≤ h.most) : ∀ {l : List (Now × Int)} {s : Now}, h.At s → h.Rows s l → h.At (lastOf s l)
  | [], _, a, _ => a
  | r :: l, s, a, x => rows_at (l := l) (s := r.1) hm (turn_at hm a x.1) x.2
theorem rows_mem {h : Hill} (hm : 0 ≤ h.most) : ∀ {l : List (Now × Int)} {s : Now}, h.At s → h.Rows s l → ∀ r ∈ l, h.At r.1
  | [], _, _, _, _, hr => by simp at hr
  | r :: l, s, a, x, q, hq => by
    rcases List.mem_cons.mp hq with rfl | hq
    · exact turn_at hm a x.1
    · exact rows_mem hm (turn_at hm a x.1) x.2 q hq
theorem rows_snoc {h : Hill} : ∀ {l : List (Now × Int)} {s : Now} {r : Now × Int}, h.Rows s l → h.Turn (lastOf s l) r → h.Rows s (l ++ [r])
  | [], _, _, _, y => ⟨y, trivial⟩
  | _ :: _, _, _, x, y => ⟨x.1, rows_snoc x.2 y⟩
theorem last_snoc : ∀ {l : List (Now × Int)} {s : Now} {r : Now × Int}, lastOf s (l ++ [r]) = r.1
  | [], _, _ => rfl
  | _ :: l, _, _ => last_snoc (l := l)
theorem last_take : ∀ {l : List (Now × Int)} {s : Now} {n : Nat} {r : Now × Int}, l[n]? = some r → lastOf s (l.take (n + 1)) = r.1
  | r :: l, s, 0, q, e => by simp at e; subst e; rfl
  | r :: l, s, n + 1, q, e => last_take (l := l) (s := r.1) (by simpa using e)
  | [], _, _, _, e => by simp at e
theorem rows_drop {h : Hill} : ∀ {l : List (Now × Int)} {s : Now} (n : Nat), h.Rows s l → h.Rows (lastOf s (l.take n)) (l.drop n)
  | l, s, 0, x => by simpa [lastOf] using x
  | [], s, n + 1, x => by simp [Rows]
  | r :: l, s, n + 1, x => rows_drop (l := l) (s := r.1) n x.2
theorem rows_take {h : Hill} : ∀ {l : List (Now × Int)} {s : Now} (n : Nat), h.Rows s l → h.Rows s (l.take n)
  | l, s, 0, x => by simp [Rows]
  | [], s, n + 1, x => by simp [Rows]
  | r :: l, s, n + 1, x => ⟨x.1, rows_take (l := l) (s := r.1) n x.2⟩
/-- two that stand one behind the other in a row -/
theorem rows_next {h : Hill} : ∀ {l : List (Now × Int)} {s : Now} {n : Nat} {a b : Now}, h.Rows s l → (s :: l.map (·.1))[n]? = some a → (l.map (·.1))[n]? = some b → ∃ z, h.Turn a (b, z)
  | [], _, _, _, _, _, _, e => by simp at e
  | r :: l, s, 0, a, b, x, e1, e2 => by
    simp at e1 e2
    subst e1 e2
    exact ⟨r.2, x.1⟩
  | r :: l, s, n + 1, a, b, x, e1, e2 => rows_next (l := l) (s := r.1) x.2 (by simpa using e1) (by simpa using e2)
/-- the first evening by which so much was given is the turn's, when the pot lacks -/
theorem eve_dayOf {h : Hill} {s : Now} {m : Nat} (hN : h.Nn) (hL : 0 < h.L) (c : s.pot < h.need s.ant) (x : h.DayOf (h.given s.day + h.need s.ant - s.pot) m) : h.Eve s m := by
  obtain ⟨x1, x2, x3⟩ := x
  have l : s.day ≤ m := by
    rcases Nat.lt_or_ge m s.day with d | d
    · have := given_mono hN hL (Nat.le_of_lt d); omega
    · exact d
  refine ⟨l, x1, by unfold over; omega, fun k _ k2 k3 => ?_⟩
  have := x3 k k2 k3
  unfold over
  omega
theorem eve_now {h : Hill} {s : Now} (a : h.isOpen s.day = true) (c : h.need s.ant ≤ s.pot) : h.Eve s s.day :=
  ⟨Nat.le_refl _, a, by unfold over; omega, fun k k1 k2 _ => by omega⟩
/-- whole years over which the need isn't met -/
theorem eve_skip {h : Hill} {s : Now} {m k : Nat} (hN : h.Nn) (hL : 0 < h.L) (hd : 0 < h.drops) (c : k = 0 ∨ (k + 1 : Int) * h.drops ≤ h.need s.ant - s.pot) (x : h.Eve ⟨s.day + k * h.L, s.ant, s.pot + k * h.drops⟩ m) : h.Eve s m ∧ h.goes ⟨s.day + k * h.L, s.ant, s.pot + k * h.drops⟩ m = h.goes s m := by
  obtain ⟨x1, x2, x3, x4⟩ := x
  have g := given_year hL s.day k (h := h)
  have e : ∀ j, h.over ⟨s.day + k * h.L, s.ant, s.pot + k * h.drops⟩ j = h.over s j := fun j => by
    unfold over
    show s.pot + k * h.drops + h.given j - h.given (s.day + k * h.L) - h.need s.ant = _
    rw [g]
    omega
  refine ⟨⟨Nat.le_trans (Nat.le_add_right _ _) x1, x2, by rw [← e]; exact x3, fun j j1 j2 j3 => ?_⟩, ?_⟩
  · by_cases q : s.day + k * h.L ≤ j
    · rw [← e]; exact x4 j q j2 j3
    · rcases c with rfl | c
      · exact absurd (by omega) q
      · have m := given_mono hN hL (show j ≤ s.day + k * h.L by omega)
        rw [g] at m
        have e2 : ((k : Int) + 1) * h.drops = k * h.drops + h.drops := by rw [Int.add_mul, Int.one_mul]
        rw [e2] at c
        unfold over
        omega
  · unfold goes
    rw [e]
theorem eve_ex {h : Hill} {s : Now} (hN : h.Nn) (hL : 0 < h.L) (hd : 0 < h.drops) (a : h.isOpen s.day = true) : ∃ m, h.Eve s m := by
  by_cases c : s.pot < h.need s.ant
  · obtain ⟨m, x⟩ := dayOf_ex hN hL ⟨_, List.mem_of_getElem? (at_day hL s.day).choose_spec.1, by rw [← (at_day hL s.day).choose_spec.2.2]; exact a⟩ hd (h.given s.day + h.need s.ant - s.pot)
    exact ⟨m, eve_dayOf hN hL c x⟩
  · exact ⟨_, eve_now a (Int.not_lt.mp c)⟩
end Hill
abbrev Now.dat (t : Bool) (s : Now) : PyData := sq t [.int s.day, .int s.ant, .int s.pot]
abbrev rowD (r : Now × Int) : PyData := sq true [r.1.dat true, .int r.2]
end Hz
namespace Hz
open PySem L2
theorem le_wo {B : List Addr} {H H' : Hp} (e : Ex B H H') (h : ∀ b ∈ B, H b = none) : Le H (wo B H') := fun a o q => by
  refine wo_of (fun z => ?_) (e.1 a o (fun z => ?_) q) <;> · rw [h a z] at q; cases q
theorem le_woT {B : List Addr} {H H' : Hp} (e : Le H H') : Le (wo B H) (wo B H') := fun a o q => by
  obtain ⟨n, q⟩ := wo_some q
  exact wo_of n (e a o q)
/-- a value made anew -/
def Fr (K : PySem.W.Frag) (H H' : Hp) (v : V) (d : PyData) : Prop := ∀ B : List Addr, (∀ b ∈ B, H b ≠ none) → Dp K (wo B H') v d
theorem Fr.dp {K : PySem.W.Frag} {H H' : Hp} {v : V} {d : PyData} (h : Fr K H H' v d) : Dp K H' v d := by
  have := h [] (by simp)
  rwa [wo_nil] at this
theorem Fr.le {K : PySem.W.Frag} {H H1 H2 : Hp} {v : V} {d : PyData} (h : Fr K H H1 v d) (e : Le H1 H2) : Fr K H H2 v d := fun B hB => dp_le (le_woT e) _ _ (h B hB)
theorem Fr.back {K : PySem.W.Frag} {H H1 H2 : Hp} {v : V} {d : PyData} (e : Ex [] H H1) (h : Fr K H1 H2 v d) : Fr K H H2 v d := fun B hB => h B fun b hb z => hB b hb (e.free z)
theorem Fr.int {K : PySem.W.Frag} {H H' : Hp} (i : Int) : Fr K H H' (.int i) (.int i) := fun _ _ => .int i
theorem Fr.tup {K : PySem.W.Frag} {H H1 : Hp} {p : Addr} {xs : List V} {ds : List PyData} (hp : H1 p = none) (e : Ex [] H H1) (h : ∀ B : List Addr, (∀ b ∈ B, H b ≠ none) → DpAll K (wo B H1) xs ds) : Fr K H (upd H1 p (.tup xs)) (.ref p) (sq true ds) := fun B hB => by
  have np : p ∉ B := fun z => hB p z (e.free hp)
  exact .tup (SqT.of (wo_of np upd_same)) (dpa_le (le_woT fun a o q => (Ex.new (B := []) hp).1 a o (by simp) q) _ _ (h B hB))
end Hz
set_option Elab.async false
set_option linter.all false
namespace Hz
open PySem PyProof.Rows L2
variable {K : PySem.W.Frag}
theorem dpa_snoc {G : Hp} : ∀ {l : List V} {ds : List PyData} {v : V} {d : PyData}, DpAll K G l ds → Dp K G v d → DpAll K G (l ++ [v]) (ds ++ [d])
  | _, _, _, _, .nil, h => .cons h .nil
  | _, _, _, _, .cons a b, h => .cons a (dpa_snoc b h)
/-- a comprehension with a test, over a list or a tuple: of each item what f tells -/
theorem z_lcQ {t : Bool} {g : TG} {tt : TT} {te : TE} {vs : List Nat} {σ : L2.St} {H : Hp} {B : List Addr} {xs : List V} {tl : TE} {Q : VK} (htl : ∀ R : VK, (∀ a H1, Ex [] H H1 → SqX t K H1 a xs → R (.ref a) H1) → tl σ H R) (hn : xs.length < 100000) (f : Nat → Option PyData) (hB : ∀ b ∈ B, H b ≠ none)
    (turn : ∀ H1, Ex [] H H1 → ∀ (i : Nat) x, xs[i]? = some x → ∀ D H', H' D ≠ none → D ∉ B → Ex [] H1 H' → ∀ (N : VK) (M : Hp → Prop), (∀ d z H3, f i = some d → Ex [] H' H3 → Dp K (wo (D :: B) H3) z d → N z H3) → (f i = none → ∀ H3, Ex [] H' H3 → M H3) →
      g x (wipe σ vs) H' fun σ2 H2 => wipe σ2 vs = wipe σ vs ∧ tt σ2 H2 fun b H3 => if b = true then te σ2 H3 N else M H3)
    (fin : ∀ D zs H', H D = none → H' D = some (.lst zs) → zs.length ≤ xs.length → DpAll K (wo (D :: B) H') zs ((List.range xs.length).filterMap f) → Ex [] H H' → Q (.ref D) H') : tLc (fun σ H R => iList K tl σ H R ∨ iTup K tl σ H R) g tt te vs σ H Q := by
  have lt : ∀ {i : Nat} {x : V}, xs[i]? = some x → i < xs.length := fun h => by
    obtain ⟨h, _⟩ := List.getElem?_eq_some_iff.mp h
    exact h
  -- what holds behind i items
  have core : ∀ H1, Ex [] H H1 → ∀ D, H1 D = none → ∀ i x, xs[i]? = some x → ∀ H', (Ex [] H1 H' ∧ ∃ zs, H' D = some (.lst zs) ∧ zs.length ≤ i ∧ DpAll K (wo (D :: B) H') zs ((List.range i).filterMap f)) →
      g x (wipe σ vs) H' fun σ2 H2 => wipe σ2 vs = wipe σ vs ∧ tt σ2 H2 fun b H3 => if b = true then te σ2 H3 fun y H4 => ∃ acc, H4 D = some (.lst acc) ∧ acc.length < sizeLine ∧ (Ex [] H1 (upd H4 D (.lst (acc ++ [y]))) ∧ ∃ zs, upd H4 D (.lst (acc ++ [y])) D = some (.lst zs) ∧ zs.length ≤ i + 1 ∧ DpAll K (wo (D :: B) (upd H4 D (.lst (acc ++ [y])))) zs ((List.range (i + 1)).filterMap f)) else (Ex [] H1 H3 ∧ ∃ zs, H3 D = some (.lst zs) ∧ zs.length ≤ i + 1 ∧ DpAll K (wo (D :: B) H3) zs ((List.range (i + 1)).filterMap f)) := fun H1 x1 D hD i x hx H' hP => by
    obtain ⟨e1, zs, hz, lz, hA⟩ := hP
    have nB : D ∉ B := fun z => hB D z (x1.free hD)
    have up : ∀ {G G' : Hp} {o : HO}, Ex [] G G' → Le (wo (D :: B) G) (wo (D :: B) (upd G' D o)) := fun x a o q => by
      obtain ⟨n1, n2⟩ := wo_some q
      exact wo_of n1 (by rw [upd_ne (fun z => n1 (by rw [z]; exact List.mem_cons_self))]; exact x.1 _ _ (by simp) n2)
    have nn : H' D ≠ none := by rw [hz]; exact fun z => by cases z
    refine turn H1 x1 i x hx D H' nn nB e1 _ _ (fun d z H3 hf x3 hd => ?_) (fun hf H3 x3 => ?_)
    · refine ⟨zs, x3.1 _ _ (by simp) hz, sz_lt (by have := lt hx; omega), (e1.trans x3).mutNew' hD, zs ++ [z], upd_same, by rw [List.length_append, List.length_singleton]; omega, ?_⟩
      rw [List.range_succ, List.filterMap_append, List.filterMap_cons, hf, List.filterMap_nil]
      exact dpa_snoc (dpa_le (up x3) _ _ hA) (dp_le (up (Ex.refl _ _)) _ _ hd)
    · refine ⟨e1.trans x3, zs, x3.1 _ _ (by simp) hz, by omega, ?_⟩
      rw [List.range_succ, List.filterMap_append, List.filterMap_cons, hf, List.filterMap_nil, List.append_nil]
      exact dpa_le x3.nil.wo _ _ hA
  have start : ∀ H1, ∀ D, H1 D = none → (Ex [] H1 (upd H1 D (.lst [])) ∧ ∃ zs, upd H1 D (.lst []) D = some (.lst zs) ∧ zs.length ≤ 0 ∧ DpAll K (wo (D :: B) (upd H1 D (.lst []))) zs ((List.range 0).filterMap f)) := fun H1 D hD => ⟨Ex.new hD, [], upd_same, Nat.le_refl _, .nil⟩
  cases t with
  | false => exact .inl (htl _ fun a H1 x1 hS => ⟨a, rfl, ⟨xs, hS⟩, fun D hD => lc_list (fun i H' => Ex [] H1 H' ∧ ∃ zs, H' D = some (.lst zs) ∧ zs.length ≤ i ∧ DpAll K (wo (D :: B) H') zs ((List.range i).filterMap f)) (start H1 D hD) (fun i H' _ p => le_l p.1.le0 hS) (fun i x H' hx p => core H1 x1 D hD i x hx H' p) (fun H' p => by obtain ⟨e1, zs, hz, lz, hA⟩ := p; exact fin D zs H' (x1.free hD) hz lz hA (x1.trans e1))⟩)
  | true => exact .inr (htl _ fun a H1 x1 hS => ⟨a, rfl, ⟨xs, hS⟩, fun D hD => lc_tup (fun i H' => Ex [] H1 H' ∧ ∃ zs, H' D = some (.lst zs) ∧ zs.length ≤ i ∧ DpAll K (wo (D :: B) H') zs ((List.range i).filterMap f)) (start H1 D hD) (fun i H' _ p => le_t p.1.le0 hS) (fun i x H' hx p => core H1 x1 D hD i x hx H' p) (fun H' p => by obtain ⟨e1, zs, hz, lz, hA⟩ := p; exact fin D zs H' (x1.free hD) hz lz hA (x1.trans e1))⟩)
end Hz
set_option linter.all false
namespace Hz
/-! ### windows: which steps around a ring lead into a lot of numbers -/
def Inw (s A l h : Int) (n : Nat) : Prop := l ≤ (n * s) % A ∧ (n * s) % A ≤ h
def Fst (s A l h : Int) : Option Nat → Prop
  | none => ∀ n : Nat, ¬ Inw s A l h n
  | some n => Inw s A l h n ∧ ∀ k : Nat, k < n → ¬ Inw s A l h k
def ceilD (a s : Int) : Int := -(-a / s)
theorem emod_of {x s q r : Int} (h : x = q * s + r) (h0 : 0 ≤ r) (h1 : r < s) : x % s = r := by
  rw [h, Int.add_comm, Int.add_mul_emod_self_right]
  exact Int.emod_eq_of_lt h0 h1
theorem ediv_of {x s q r : Int} (h : x = q * s + r) (h0 : 0 ≤ r) (h1 : r < s) : x / s = q := by
  rw [h, Int.add_comm, Int.add_mul_ediv_right _ _ (by omega), Int.ediv_eq_zero_of_lt h0 h1]
  omega
theorem ceil_of {a s n : Int} (h0 : (n - 1) * s < a) (h1 : a ≤ n * s) : ceilD a s = n := by
  have e : (n - 1) * s = n * s - s := by rw [Int.sub_mul, Int.one_mul]
  unfold ceilD
  rw [ediv_of (x := -a) (s := s) (q := -n) (r := n * s - a) (by rw [Int.neg_mul]; omega) (by omega) (by omega)]
  omega
theorem ceil_le {a b s : Int} (hs : 0 < s) (h : a ≤ b) : ceilD a s ≤ ceilD b s := by
  have := Int.ediv_le_ediv hs (show -b ≤ -a by omega)
  unfold ceilD
  omega
/-- what the windows' ring shrinks to -/
structure Wd (s A l h : Int) : Prop where
  s0 : 0 < s
  sA : s < A
  l0 : 0 < l
  lh : l ≤ h
  hA : h < A
  no : h / s * s < l
theorem Wd.block {s A l h : Int} (w : Wd s A l h) : ∃ q, q = h / s ∧ q * s < l ∧ h < q * s + s := by
  refine ⟨h / s, rfl, w.no, ?_⟩
  have := Int.emod_lt_of_pos h w.s0
  have e := Int.mul_ediv_add_emod h s
  rw [Int.mul_comm] at e
  omega
theorem Wd.negmod {s A l h : Int} (w : Wd s A l h) {q x : Int} (h1 : q * s < l) (h2 : h < q * s + s) (hx : l ≤ x) (hy : x ≤ h) : (-x) % s = q * s + s - x := by
  refine emod_of (q := -(q + 1)) ?_ (by omega) (by omega)
  rw [Int.neg_mul, Int.add_mul, Int.one_mul]
  omega
/-- the lesser ring's own bounds -/
theorem Wd.less {s A l h : Int} (w : Wd s A l h) : 0 ≤ A % s ∧ A % s < s ∧ 0 < -h % s ∧ -h % s ≤ -l % s ∧ -l % s < s := by
  obtain ⟨q, _, h1, h2⟩ := w.block
  have := w.lh
  have e1 := w.negmod h1 h2 w.lh (Int.le_refl _)
  have e2 := w.negmod h1 h2 (Int.le_refl _) w.lh
  refine ⟨Int.emod_nonneg _ (by have := w.s0; omega), Int.emod_lt_of_pos _ w.s0, by omega, by omega, by omega⟩
theorem Wd.ceil {s A l h x m : Int} {n : Nat} (w : Wd s A l h) (e : n * s = m * A + x) (h1 : l ≤ x) (h2 : x ≤ h) : ceilD (m * A + l) s = n := by
  obtain ⟨q, _, q1, q2⟩ := w.block
  refine ceil_of ?_ (by omega)
  rw [Int.sub_mul, Int.one_mul]
  omega
theorem Wd.to {s A l h : Int} (w : Wd s A l h) {n : Nat} (i : Inw s A l h n) : ∃ m : Nat, Inw (A % s) s (-h % s) (-l % s) m ∧ ceilD (m * A + l) s = n := by
  obtain ⟨q, _, q1, q2⟩ := w.block
  have hA : 0 < A := by have := w.s0; have := w.sA; omega
  have hn : 0 ≤ (n : Int) * s := Int.mul_nonneg (by omega) (by have := w.s0; omega)
  have e := Int.mul_ediv_add_emod ((n : Int) * s) A
  have d0 : 0 ≤ (n : Int) * s / A := Int.ediv_nonneg hn (by omega)
  obtain ⟨i1, i2⟩ := i
  generalize ((n : Int) * s) % A = x at e i1 i2
  obtain ⟨m, hm⟩ := Int.eq_ofNat_of_zero_le d0
  rw [hm, Int.mul_comm] at e
  refine ⟨m, ?_, w.ceil e.symm i1 i2⟩
  have ex := w.negmod q1 q2 i1 i2
  have eh := w.negmod q1 q2 w.lh (Int.le_refl _)
  have el := w.negmod q1 q2 (Int.le_refl _) w.lh
  have key : ((m : Int) * (A % s)) % s = (-x) % s := by
    rw [Int.mul_emod, Int.emod_emod, ← Int.mul_emod]
    have : (m : Int) * A = -x + n * s := by omega
    rw [this, Int.add_mul_emod_self_right]
  unfold Inw
  rw [key]
  omega
theorem Wd.from {s A l h : Int} (w : Wd s A l h) {m : Nat} (i : Inw (A % s) s (-h % s) (-l % s) m) : ∃ n : Nat, ceilD (m * A + l) s = n ∧ Inw s A l h n := by
  obtain ⟨q, _, q1, q2⟩ := w.block
  have hA : 0 < A := by have := w.s0; have := w.sA; omega
  have key : ((m : Int) * (A % s)) % s = ((m : Int) * A) % s := by
    rw [Int.mul_emod, Int.emod_emod, ← Int.mul_emod]
  have eh := w.negmod q1 q2 w.lh (Int.le_refl _)
  have el := w.negmod q1 q2 (Int.le_refl _) w.lh
  unfold Inw at i
  rw [key, eh, el] at i
  have e := Int.mul_ediv_add_emod ((m : Int) * A) s
  generalize ((m : Int) * A) % s = y at e i
  have hd : 0 ≤ (m : Int) * A / s := Int.ediv_nonneg (Int.mul_nonneg (by omega) (by omega)) (by have := w.s0; omega)
  have hq : -1 ≤ q := by
    have h1 := w.l0
    have h2 := w.lh
    by_cases c : q + 1 < 0
    · have : (q + 1) * s ≤ 0 := Int.mul_nonpos_of_nonpos_of_nonneg (by omega) (by have := w.s0; omega)
      rw [Int.add_mul, Int.one_mul] at this
      omega
    · omega
  obtain ⟨n, hn⟩ := Int.eq_ofNat_of_zero_le (show 0 ≤ (m : Int) * A / s + q + 1 by omega)
  have en : (n : Int) * s = m * A + (q * s + s - y) := by
    have : (n : Int) = (m : Int) * A / s + q + 1 := hn.symm
    rw [this, Int.add_mul, Int.add_mul, Int.one_mul, Int.mul_comm (_ / _) s]
    omega
  refine ⟨n, w.ceil en (by omega) (by omega), ?_⟩
  have := w.l0
  have := w.hA
  have ex : ((n : Int) * s) % A = q * s + s - y := emod_of en (by omega) (by omega)
  unfold Inw
  rw [ex]
  omega
/-- what of the lesser ring is known is known of the ring -/
theorem Wd.some {s A l h : Int} (w : Wd s A l h) {m : Nat} (f : Fst (A % s) s (-h % s) (-l % s) (some m)) : ∃ n : Nat, ceilD (m * A + l) s = n ∧ Fst s A l h (some n) := by
  obtain ⟨n, hn, i⟩ := w.from f.1
  refine ⟨n, hn, i, fun k hk ik => ?_⟩
  obtain ⟨j, ij, ej⟩ := w.to ik
  by_cases c : j < m
  · exact f.2 j c ij
  · have : (m : Int) * A ≤ j * A := Int.mul_le_mul_of_nonneg_right (by omega) (by have := w.s0; have := w.sA; omega)
    have := ceil_le w.s0 (show (m : Int) * A + l ≤ j * A + l by omega)
    omega
theorem Wd.none {s A l h : Int} (w : Wd s A l h) (f : Fst (A % s) s (-h % s) (-l % s) none) : Fst s A l h none := fun n i => by
  obtain ⟨m, im, _⟩ := w.to i
  exact f m im
theorem fst_zero {A l h : Int} (h0 : 0 < l) : Fst 0 A l h none := fun n i => by
  obtain ⟨i1, _⟩ := i
  rw [Int.mul_zero, Int.zero_emod] at i1
  omega
theorem fst_flat {s A l h : Int} (s0 : 0 < s) (l0 : 0 < l) (lh : l ≤ h) (hA : h < A) (c : l ≤ h / s * s) : ∃ n : Nat, ceilD l s = n ∧ Fst s A l h (some n) := by
  have e := Int.mul_ediv_add_emod l s
  have e1 := Int.emod_nonneg l (show s ≠ 0 by omega)
  have e2 := Int.emod_lt_of_pos l s0
  have eh := Int.mul_ediv_add_emod h s
  have eh1 := Int.emod_nonneg h (show s ≠ 0 by omega)
  rw [Int.mul_comm] at e eh
  have d0 : 0 ≤ l / s := Int.ediv_nonneg (by omega) (by omega)
  -- the least n with l ≤ n s
  obtain ⟨n, n1, n2, n3⟩ : ∃ n : Nat, ((n : Int) - 1) * s < l ∧ l ≤ n * s ∧ (n : Int) * s ≤ h := by
    by_cases z : l % s = 0
    · obtain ⟨n, hn⟩ := Int.eq_ofNat_of_zero_le d0
      refine ⟨n, ?_, ?_, ?_⟩ <;> (have hn' : (n : Int) = l / s := hn.symm) <;> rw [hn'] <;> (try rw [Int.sub_mul, Int.one_mul]) <;> omega
    · obtain ⟨n, hn⟩ := Int.eq_ofNat_of_zero_le (show 0 ≤ l / s + 1 by omega)
      have hn' : (n : Int) = l / s + 1 := hn.symm
      have lt : l / s < h / s := by
        refine Int.not_le.mp fun g => ?_
        have := Int.mul_le_mul_of_nonneg_right g (show 0 ≤ s by omega)
        omega
      have := Int.mul_le_mul_of_nonneg_right (show l / s + 1 ≤ h / s by omega) (show 0 ≤ s by omega)
      rw [Int.add_mul, Int.one_mul] at this
      refine ⟨n, ?_, ?_, ?_⟩ <;> rw [hn']
      · rw [Int.add_sub_cancel]; omega
      · rw [Int.add_mul, Int.one_mul]; omega
      · rw [Int.add_mul, Int.one_mul]; omega
  refine ⟨n, ceil_of n1 n2, ?_, fun k hk i => ?_⟩
  · unfold Inw
    rw [Int.emod_eq_of_lt (by omega) (by omega)]
    omega
  · have : (k : Int) * s ≤ ((n : Int) - 1) * s := Int.mul_le_mul_of_nonneg_right (by omega) (by omega)
    have k0 : 0 ≤ (k : Int) * s := Int.mul_nonneg (by omega) (by omega)
    have i1 := i.1
    rw [Int.emod_eq_of_lt k0 (by omega)] at i1
    omega
/-! ### from any begin on -/
def Inb (b st A l h : Int) (n : Nat) : Prop := l ≤ (b + n * st) % A ∧ (b + n * st) % A ≤ h
def Fsb (b st A l h : Int) : Option Nat → Prop
  | none => ∀ n : Nat, ¬ Inb b st A l h n
  | some n => Inb b st A l h n ∧ ∀ k : Nat, k < n → ¬ Inb b st A l h k
theorem fsb_uniq {b st A l h : Int} : ∀ {x y : Option Nat}, Fsb b st A l h x → Fsb b st A l h y → x = y
  | none, none, _, _ => rfl
  | none, some m, f, g => absurd g.1 (f m)
  | some n, none, f, g => absurd f.1 (g n)
  | some n, some m, f, g => by
    rcases Nat.lt_trichotomy n m with c | c | c
    · exact absurd f.1 (g.2 n c)
    · rw [c]
    · exact absurd g.1 (f.2 m c)
theorem inb_iff {b st A l h : Int} (A0 : 0 < A) (l0 : 0 ≤ l) (lh : l ≤ h) (hA : h < A) (c0 : (l - b) % A ≠ 0) (c1 : (l - b) % A + h - l < A) (n : Nat) : Inb b st A l h n ↔ Inw (st % A) A ((l - b) % A) ((l - b) % A + h - l) n := by
  have a0 := Int.emod_nonneg (l - b) (show A ≠ 0 by omega)
  have a1 := Int.emod_lt_of_pos (l - b) A0
  have e := Int.mul_ediv_add_emod (l - b) A
  rw [Int.mul_comm] at e
  have z0 := Int.emod_nonneg ((n : Int) * (st % A)) (show A ≠ 0 by omega)
  have z1 := Int.emod_lt_of_pos ((n : Int) * (st % A)) A0
  have key : ((n : Int) * (st % A)) % A = ((n : Int) * st) % A := by
    rw [Int.mul_emod, Int.emod_emod, ← Int.mul_emod]
  have ez := Int.mul_ediv_add_emod ((n : Int) * st) A
  rw [Int.mul_comm A] at ez
  unfold Inb Inw
  rw [key] at z0 z1 ⊢
  generalize ((n : Int) * st) % A = z at *
  generalize ((n : Int) * st) / A = k at *
  generalize (l - b) % A = a at *
  generalize (l - b) / A = j at *
  have eb : b + n * st = (k - j) * A + (l - a + z) := by rw [Int.sub_mul]; omega
  rcases Int.lt_or_le z a with c | c
  · rcases Int.lt_or_le (l - a + z) 0 with d | d
    · rw [emod_of (q := k - j - 1) (r := l - a + z + A) (by rw [eb, Int.sub_mul (k - j), Int.one_mul]; omega) (by omega) (by omega)]
      omega
    · rw [emod_of (q := k - j) (r := l - a + z) eb d (by omega)]
      omega
  · rcases Int.lt_or_le (l - a + z) A with d | d
    · rw [emod_of (q := k - j) (r := l - a + z) eb (by omega) d]
      omega
    · rw [emod_of (q := k - j + 1) (r := l - a + z - A) (by rw [eb, Int.add_mul (k - j), Int.one_mul]; omega) (by omega) (by omega)]
      omega
theorem inb_now {b st A l h : Int} (A0 : 0 < A) (l0 : 0 ≤ l) (lh : l ≤ h) (hA : h < A) (c : (l - b) % A = 0 ∨ A ≤ (l - b) % A + h - l) : Inb b st A l h 0 := by
  have a0 := Int.emod_nonneg (l - b) (show A ≠ 0 by omega)
  have a1 := Int.emod_lt_of_pos (l - b) A0
  have e := Int.mul_ediv_add_emod (l - b) A
  rw [Int.mul_comm] at e
  unfold Inb
  rw [Int.ofNat_zero, Int.zero_mul, Int.add_zero]
  generalize (l - b) % A = a at *
  generalize (l - b) / A = j at *
  rcases c with c | c
  · rw [emod_of (q := -j) (r := l) (by rw [Int.neg_mul]; omega) l0 (by omega)]
    omega
  · rw [emod_of (q := -j - 1) (r := l - a + A) (by rw [Int.sub_mul, Int.neg_mul, Int.one_mul]; omega) (by omega) (by omega)]
    omega
theorem fsb_of {b st A l h : Int} (A0 : 0 < A) (l0 : 0 ≤ l) (lh : l ≤ h) (hA : h < A) (c0 : (l - b) % A ≠ 0) (c1 : (l - b) % A + h - l < A) : ∀ {r : Option Nat}, Fst (st % A) A ((l - b) % A) ((l - b) % A + h - l) r → Fsb b st A l h r
  | none, f => fun n i => f n ((inb_iff A0 l0 lh hA c0 c1 n).mp i)
  | some n, f => ⟨(inb_iff A0 l0 lh hA c0 c1 n).mpr f.1, fun k hk i => f.2 k hk ((inb_iff A0 l0 lh hA c0 c1 k).mp i)⟩
theorem fsb_now {b st A l h : Int} (A0 : 0 < A) (l0 : 0 ≤ l) (lh : l ≤ h) (hA : h < A) (c : (l - b) % A = 0 ∨ A ≤ (l - b) % A + h - l) : Fsb b st A l h (some 0) := ⟨inb_now A0 l0 lh hA c, fun k hk => absurd hk (Nat.not_lt_zero _)⟩
/-- as many arounds more or less -/
theorem inb_alike {b st A l h c d : Int} (n : Nat) : Inb (b + c * A) (st + d * A) A l h n ↔ Inb b st A l h n := by
  unfold Inb
  have : b + c * A + n * (st + d * A) = b + n * st + (c + n * d) * A := by
    rw [Int.mul_add, Int.add_mul, ← Int.mul_assoc]; omega
  rw [this, Int.add_mul_emod_self_right]
theorem inb_round {b st A l h : Int} (A0 : 0 < A) (n : Nat) : Inb b st A l h n ↔ Inb b st A l h (n % A.toNat) := by
  unfold Inb
  have e : (b + n * st) % A = (b + (n % A.toNat : Nat) * st) % A := by
    have h1 : (n : Int) = (n % A.toNat : Nat) + (n / A.toNat : Nat) * A := by
      have h2 := Nat.div_add_mod n A.toNat
      have h3 : ((A.toNat : Nat) : Int) = A := by omega
      have h4 : ((A.toNat * (n / A.toNat) + n % A.toNat : Nat) : Int) = n := by rw [h2]
      rw [Int.natCast_add, Int.natCast_mul, h3, Int.mul_comm] at h4
      omega
    have : b + n * st = b + (n % A.toNat : Nat) * st + ((n / A.toNat : Nat) * st) * A := by
      rw [h1, Int.add_mul, Int.mul_assoc, Int.mul_comm A st, ← Int.mul_assoc]
      omega
    rw [this, Int.add_mul_emod_self_right]
  rw [e]
end Hz
set_option Elab.async false
set_option linter.all false
namespace Hz
open PySem PyProof.Rows L2
def optV : Option Nat → V
  | none => .non
  | some n => .int n
def optD : Option Nat → PyData
  | none => .none
  | some n => .int n
theorem dp_opt {K : PySem.W.Frag} {H : Hp} : ∀ r : Option Nat, Dp K H (optV r) (optD r)
  | none => .non
  | some n => .int n
theorem log2_60 {j : Nat} (h : j ≤ 10 ^ 60) : j.log2 < 200 := PySem.Flt.log2_lt_of (by decide) (Nat.lt_of_le_of_lt h (by decide))
theorem mulw_of {i j : Int} (hi : i.natAbs ≤ 10 ^ 60) (hj : j.natAbs ≤ 10 ^ 60) : CMulW i j := by
  have := log2_60 hi
  have := log2_60 hj
  unfold CMulW
  omega
theorem log2_150 {j : Nat} (h : j ≤ 10 ^ 150) : j.log2 < 500 := PySem.Flt.log2_lt_of (by decide) (Nat.lt_of_le_of_lt h (by decide))
theorem mulw_big {i j : Int} (hi : i.natAbs ≤ 10 ^ 150) (hj : j.natAbs ≤ 10 ^ 150) : CMulW i j := by
  have := log2_150 hi
  have := log2_150 hj
  unfold CMulW
  omega
/-- a ring and a window -/
structure Qd where
  s : Int
  A : Int
  l : Int
  h : Int
def Qd.less (g : Qd) : Qd := ⟨g.A % g.s, g.s, -g.h % g.s, -g.l % g.s⟩
abbrev Qd.W (g : Qd) : Prop := Wd g.s g.A g.l g.h
abbrev Qd.F (g : Qd) (r : Option Nat) : Prop := Fst g.s g.A g.l g.h r
structure Qd.B (g : Qd) : Prop where
  s0 : 0 ≤ g.s
  sA : g.s < g.A
  l0 : 0 < g.l
  lh : g.l ≤ g.h
  hA : g.h < g.A
/-- how rings shrank -/
inductive Ch (o : Qd) : List Qd → Qd → Prop
  | nil : Ch o [] o
  | snoc {gs : List Qd} {g : Qd} : Ch o gs g → g.W → Ch o (gs ++ [g]) g.less
theorem Ch.none {o : Qd} : ∀ {gs : List Qd} {g : Qd}, Ch o gs g → g.F none → o.F none
  | _, _, .nil, f => f
  | _, _, .snoc c w, f => c.none (w.none f)
theorem Ch.last {o : Qd} {gs : List Qd} {g : Qd} (c : Ch o gs g) (h : 0 < gs.length) : ∃ gs' g', gs = gs' ++ [g'] ∧ Ch o gs' g' ∧ g'.W ∧ g = g'.less := by
  cases c with
  | nil => simp at h
  | snoc c w => exact ⟨_, _, rfl, c, w, rfl⟩
theorem Ch.zero {o g : Qd} (c : Ch o [] g) : g = o := by
  generalize e : ([] : List Qd) = gs at c
  cases c with
  | nil => rfl
  | snoc c w => simp at e
theorem less_mul {s A : Int} (s0 : 0 < s) (sA : s < A) : 2 * (A % s * s) ≤ s * A := by
  have e := Int.mul_ediv_add_emod A s
  have e1 := Int.emod_nonneg A (show s ≠ 0 by omega)
  have e2 := Int.emod_lt_of_pos A s0
  have q1 : 1 ≤ A / s := by
    refine Int.not_lt.mp fun c => ?_
    have : s * (A / s) ≤ s * 0 := Int.mul_le_mul_of_nonneg_left (by omega) (by omega)
    omega
  have : s * 1 ≤ s * (A / s) := Int.mul_le_mul_of_nonneg_left q1 (by omega)
  have h : 2 * (A % s) ≤ A := by omega
  have := Int.mul_le_mul_of_nonneg_left h (show 0 ≤ s by omega)
  have e3 : s * (2 * (A % s)) = 2 * (A % s * s) := by rw [Int.mul_comm s, Int.mul_assoc]
  omega
theorem inw_inb {s A l h : Int} (n : Nat) : Inw s A l h n ↔ Inb 0 s A l h n := by
  unfold Inw Inb
  rw [Int.zero_add]
theorem fst_lt {s A l h : Int} {n : Nat} (A0 : 0 < A) (f : Fst s A l h (some n)) : (n : Int) < A := by
  have h1 := (inb_round A0 n).mp ((inw_inb n).mp f.1)
  have h2 : n % A.toNat < A.toNat := Nat.mod_lt _ (by omega)
  by_cases c : n % A.toNat < n
  · exact absurd ((inw_inb _).mpr h1) (f.2 _ c)
  · omega
theorem fsb_lt {b s A l h : Int} {n : Nat} (A0 : 0 < A) (f : Fsb b s A l h (some n)) : (n : Int) < A := by
  have h1 := (inb_round A0 n).mp f.1
  have h2 : n % A.toNat < A.toNat := Nat.mod_lt _ (by omega)
  by_cases c : n % A.toNat < n
  · exact absurd h1 (f.2 _ c)
  · omega
theorem fsb_alike {b st A l h c d : Int} : ∀ {r : Option Nat}, Fsb b st A l h r → Fsb (b + c * A) (st + d * A) A l h r
  | none, f => fun n i => f n ((inb_alike n).mp i)
  | some n, f => ⟨(inb_alike n).mpr f.1, fun k hk i => f.2 k hk ((inb_alike k).mp i)⟩
theorem inb_dec {b st A l h : Int} (n : Nat) : Inb b st A l h n ∨ ¬ Inb b st A l h n := Classical.em _
theorem fsb_ex (b st A l h : Int) : ∃ r, Fsb b st A l h r := by
  by_cases c : ∃ n, Inb b st A l h n
  · obtain ⟨n, hn⟩ := c
    have : ∀ m, Inb b st A l h m → ∃ k, Inb b st A l h k ∧ ∀ j, j < k → ¬ Inb b st A l h j := by
      intro m
      induction m using Nat.strongRecOn with
      | ind m ih =>
        intro hm
        by_cases c : ∃ j, j < m ∧ Inb b st A l h j
        · obtain ⟨j, h1, h2⟩ := c
          exact ih j h1 h2
        · exact ⟨m, hm, fun j hj i => c ⟨j, hj, i⟩⟩
    obtain ⟨k, h1, h2⟩ := this n hn
    exact ⟨some k, h1, h2⟩
  · exact ⟨none, fun n i => c ⟨n, i⟩⟩
/-- the last one below so many -/
def Lsb (b st A l h N : Int) : Option Nat → Prop
  | none => ∀ n : Nat, (n : Int) < N → ¬ Inb b st A l h n
  | some n => (n : Int) < N ∧ Inb b st A l h n ∧ ∀ k : Nat, n < k → (k : Int) < N → ¬ Inb b st A l h k
theorem lsb_uniq {b st A l h N : Int} : ∀ {x y : Option Nat}, Lsb b st A l h N x → Lsb b st A l h N y → x = y
  | none, none, _, _ => rfl
  | none, some m, f, g => absurd g.2.1 (f m g.1)
  | some n, none, f, g => absurd f.2.1 (g n f.1)
  | some n, some m, f, g => by
    rcases Nat.lt_trichotomy n m with c | c | c
    · exact absurd g.2.1 (f.2.2 m c g.1)
    · rw [c]
    · exact absurd f.2.1 (g.2.2 n c f.1)
def lastOf (N : Int) : Option Nat → Option Nat
  | none => none
  | some n => if (n : Int) < N then some (N - 1 - n).toNat else none
theorem inb_back {b st A l h N : Int} {n m : Nat} (e : (m : Int) = N - 1 - n) : Inb (b + (N - 1) * st) (-st) A l h n ↔ Inb b st A l h m := by
  unfold Inb
  have : b + (N - 1) * st + n * -st = b + m * st := by
    rw [e, Int.sub_mul (N - 1) n st, Int.mul_neg]
    omega
  rw [this]
theorem lsb_of {b st A l h N : Int} : ∀ {r : Option Nat}, Fsb (b + (N - 1) * st) (-st) A l h r → Lsb b st A l h N (lastOf N r)
  | none, f => fun m hm i => f (N - 1 - m).toNat ((inb_back (m := m) (by omega)).mpr i)
  | some n, ⟨f1, f2⟩ => by
    show Lsb b st A l h N (if (n : Int) < N then some (N - 1 - n).toNat else none)
    by_cases c : (n : Int) < N
    · rw [if_pos c]
      refine ⟨by omega, (inb_back (n := n) (by omega)).mp f1, fun k hk hN i => ?_⟩
      exact f2 (N - 1 - k).toNat (by omega) ((inb_back (m := k) (by omega)).mpr i)
    · rw [if_neg c]
      exact fun m hm i => f2 (N - 1 - m).toNat (by omega) ((inb_back (m := m) (by omega)).mpr i)
theorem pow_len {k : Nat} {x y : Int} (hx : 1 ≤ x) (h : 2 ^ k * x ≤ y) (hy : y ≤ 10 ^ 110) : k ≤ 400 := by
  refine Nat.not_lt.mp fun c => ?_
  obtain ⟨j, rfl⟩ : ∃ j, k = 401 + j := ⟨k - 401, by omega⟩
  have e1 : (1 : Int) ≤ 2 ^ j := Int.pow_pos (show (0 : Int) < 2 by decide)
  rw [Int.pow_add] at h
  have e2 : (2 : Int) ^ 401 * 1 ≤ 2 ^ 401 * 2 ^ j := Int.mul_le_mul_of_nonneg_left e1 (Int.pow_nonneg (by decide))
  have e3 : (2 : Int) ^ 401 * 2 ^ j * 1 ≤ 2 ^ 401 * 2 ^ j * x := Int.mul_le_mul_of_nonneg_left hx (by omega)
  have e4 : (10 : Int) ^ 110 < 2 ^ 401 * 1 := by decide
  rw [Int.mul_one] at e3
  exact absurd (Int.lt_of_lt_of_le e4 (Int.le_trans e2 (Int.le_trans e3 (Int.le_trans h hy)))) (Int.lt_irrefl _)
end Hz
set_option Elab.async false
set_option linter.all false
set_option maxRecDepth 100000
set_option maxHeartbeats 4000000
namespace Z10
open PySem PySem.Spec PyProof.Rows L2 Hz Hz.Win
section
variable {P : Program} {w : World} {K : PySem.W.Frag} {mg : Str → Option Value} {base : Heap}
local macro_rules | `(tactic| walk_at "un") => `(tactic| dsimp only [tSeq, tIfS, tRet, tAsg, tDrop, tOr, tAnd, tNot, tAndV, tOrV, tNotV, tTest, tB, tOp, tUn, tCB, tCons, tNil, tC, tNext, tIf, tChain, gName, tPar, tPar3, tTup, tLst])
/-- from the rings back -/
def spGb (K : PySem.W.Frag) : Sp := fun vs H Q _ => ∃ (L : Addr) (rs : List V) (wv fv : V) (ws : List Int) (ps : List Pb) (o cur : Pb) (f : List (Nat × Nat)), vs = [.ref L, wv, fv] ∧ SqL K H L rs ∧ DpAll K H rs (ps.map ringD) ∧ Dp K H wv (.list (ws.map PyData.int)) ∧ Dp K H fv (.list ((f.map cst).map pd)) ∧ Ch ws o ps cur ∧ Good ws cur f ∧ f.length ≤ 10000 ∧ Wf ws cur ∧ cur.M ≤ 10 ^ 50 ∧ (∀ p ∈ ps, p.M ≤ 10 ^ 50) ∧
  ∀ n j v H', LAt ws o n j → Dp K H' v (pd (cst (n, j))) → Ex [] H H' → Q v H'
theorem fm_filter {α β : Type} (c : α → Prop) [DecidablePred c] (g : α → β) (l : List α) : (l.filterMap fun q => if c q then some (g q) else none) = (l.filter fun q => decide (c q)).map g := by
  induction l with
  | nil => rfl
  | cons a l ih =>
    rw [List.filterMap_cons, List.filter_cons]
    by_cases z : c a
    · rw [if_pos z, if_pos (decide_eq_true z), List.map_cons, ← ih]
    · rw [if_neg z, if_neg (by simpa using z), ← ih]
theorem pair_at {G : Hp} {xs : List V} {f : List (Nat × Nat)} {k : Nat} {x : V} (h : DpAll K G xs ((f.map cst).map pd)) (e : xs[k]? = some x) : ∃ q a, f[k]? = some q ∧ x = .ref a ∧ SqT K G a [.int (q.1 : Nat), .int (q.2 : Nat)] := by
  obtain ⟨d, hd, hD⟩ := dpa_get' h e
  rw [List.getElem?_map, List.getElem?_map] at hd
  cases eq : f[k]? with
  | none => rw [eq] at hd; cases hd
  | some q =>
    rw [eq] at hd
    cases hd
    obtain ⟨a, ys, rfl, hS, hA⟩ := dp_tup (show Dp K G x (.tuple [.int (q.1 : Nat), .int (q.2 : Nat)]) from hD)
    cases hA with
    | cons h1 hA =>
    cases hA with
    | cons h2 hA =>
    cases hA
    cases h1
    cases h2
    exact ⟨q, a, rfl, rfl, hS⟩
theorem ok_gone_back (T : Txt K mg) : FnOk P w K mg base CX0 1 T.a_gone_back T.d_gone_back P_gone_back (spGb K) := by
  have nd := sc_gone_back.nd
  refine T.F_gone_back.ok sc_gone_back (fun vs H Q E h => ?_) (fun cdv A outer s H vs Q E hr h => ?_)
  · obtain ⟨L, rs, wv, fv, ws, ps, o, cur, f, rfl, _⟩ := h
    rfl
  · obtain ⟨L, rs, wv, fv, ws, ps, o, cur, f, rfl, hL, hR, hW, hF, hc, hg, hn, hwf, hM, hps, q⟩ := h
    have t0 : (10 : Int) ^ 50 = 100000000000000000000000000000000000000000000000000 := by decide
    refine ⟨_, (pss_cons (ps_for PassesOwn.never rfl (RT.pi_revA (by rfl) T.z_reversed (pv 0)) (pg_tupK K 3 (by rfl) (pgs_cons (pg_name (i := 3) nd rfl (Or.inr rfl)) (pgs_cons (pg_name (i := 4) nd rfl (Or.inr rfl)) (pgs_cons (pg_name (i := 5) nd rfl (Or.inr rfl)) pgs_nil)))) (pss_cons (ps_set (i := 6) nd rfl (Or.inr rfl) (pe_ix (ixK K) (pe_callB (cr_minP rfl hr.units) (by rfl) T.z_min (by decide +kernel) (pa_cons (pv 2) pa_nil)) pe_int (fun _ _ => rfl)))
      (pss_cons (ps_setLc (i := 7) (own := [("times", 8), ("place", 9)]) (by rfl) nd rfl rfl (sw_true rfl rfl rfl (by decide +kernel)) (pi_seqK K (pv 2)) (blkOk_by (N := N_gone_back) (own := [("times", 8), ("place", 9)]) (sc := defScope s_gone_back) (by decide +kernel)) (fun _ _ _ _ _ => (pg_tupK K 2 (by rfl) (pgs_cons (pg_name (i := 8) nd rfl (Or.inl rfl)) (pgs_cons (pg_name (i := 9) nd rfl (Or.inl rfl)) pgs_nil)))) (fun _ _ _ _ _ => (pts_one (pt_cmpR op_eq (pv 8) (pv 6) (nomark _)))) (fun _ _ _ _ _ => (pe_tup (pa_cons (pv 8) (pa_cons (pv 9) pa_nil)))))
      (pss_one (ps_setLc (i := 2) (own := [("times", 8), ("place", 9)]) (by rfl) nd rfl rfl (sw_true rfl rfl rfl (by decide +kernel)) (pi_seqK K (pv 7)) (blkOk_by (N := N_gone_back) (own := [("times", 8), ("place", 9)]) (sc := defScope s_gone_back) (by decide +kernel)) (fun _ _ _ _ _ => (pg_tupK K 2 (by rfl) (pgs_cons (pg_name (i := 8) nd rfl (Or.inl rfl)) (pgs_cons (pg_name (i := 9) nd rfl (Or.inl rfl)) pgs_nil)))) (fun _ _ _ _ _ => pts_nil) (fun _ _ _ _ _ => (pe_tup (pa_cons (pe_un un_neg (pe_op op_fdivW (pe_un un_neg (pe_op op_sub (pe_op op_add (pe_op op_mulW (pv 8) (pv 4)) (pe_ix (ixK K) (pv 5) (pv 9) (fun _ _ => rfl))) (pe_ix (ixK K) (pv 1) (pv 9) (fun _ _ => rfl)))) (pv 3))) (pa_cons (pv 9) pa_nil)))))))))
      (pss_one (ps_ret (pe_callB (cr_minP rfl hr.units) (by rfl) T.z_min (by decide +kernel) (pa_cons (pv 2) pa_nil))))), ?_⟩
    walk_at "un"
    have lr : rs.length = ps.length := by have := dpa_len hR; rw [List.length_map] at this; exact this
    refine ⟨_, rfl, L, rs, rfl, .inl ⟨hL, RT.for_Itv (xs := rs) (fun j σ H' => ∃ (u3 u4 u5 u6 u7 : Option V) (gs1 gs2 : List Pb) (e : Pb) (f' : List (Nat × Nat)) (fv' : V), σ = [some (.ref L), some wv, some fv', u3, u4, u5, u6, u7, none, none] ∧ ps = gs1 ++ gs2 ∧ gs2.length = j ∧ Ch ws o gs1 e ∧ Good ws e f' ∧ f'.length ≤ 10000 ∧ Wf ws e ∧ e.M ≤ 10 ^ 50 ∧ Dp K H' fv' (.list ((f'.map cst).map pd)) ∧ Ex [] H H')
      ⟨_, _, _, _, _, ps, [], cur, f, fv, rfl, by simp, rfl, hc, hg, hn, hwf, hM, hF, Ex.refl _ _⟩ (fun j σ H' hP => ?_) (fun j x σ H' hj hx hP => ?_) (fun σ H' hP => ?_)⟩⟩
    · obtain ⟨_, _, _, _, _, _, _, _, _, _, _, _, _, _, _, _, _, _, _, x⟩ := hP
      exact le_l x.le0 hL
    · obtain ⟨u3, u4, u5, u6, u7, gs1, gs2, e, f', fv', rfl, eg, lg2, hc, hg, hn, hwf, hM, hF, x1⟩ := hP
      have l1 : gs1.length + gs2.length = ps.length := by rw [eg, List.length_append]
      obtain ⟨gs1', e', rfl, hc', W'⟩ := hc.last (by omega)
      rw [List.length_append, List.length_singleton] at l1
      have ix : rs.length - 1 - j = gs1'.length := by omega
      rw [ix] at hx
      have hge : ps[gs1'.length]? = some e' := by
        rw [eg, List.append_assoc, List.getElem?_append_right (Nat.le_refl _), Nat.sub_self]
        rfl
      obtain ⟨d, hd, hDx⟩ := dpa_get' (dpa_le x1.le0 _ _ hR) hx
      rw [List.getElem?_map, hge] at hd
      cases hd
      obtain ⟨ra, rxs, rfl, hrS, hrA⟩ := dp_tup (show Dp K H' x (.tuple [.int e'.s, .int e'.M, .list (e'.hs.map PyData.int)]) from hDx)
      cases hrA with
      | cons h1 hrA =>
      cases hrA with
      | cons h2 hrA =>
      cases hrA with
      | cons h3 hrA =>
      cases hrA
      cases h1
      cases h2
      rename_i hv
      refine ⟨ra, _, rfl, hrS, rfl, _, _, rfl, _, _, rfl, _, _, rfl, rfl, ?_⟩
      walk_at "un"
      refine ⟨_, rfl, fv', f'.map cst, rfl, hF, fun z => hg.ne (List.map_eq_nil_iff.mp z), fun z p lp hz => ?_⟩
      obtain ⟨n0, j0, rfl, m0, la0⟩ := least_at hg lp
      refine z_ixD (show Dp K H' z (sq true [.int n0, .int j0]) from hz) (Le.refl _) (j := 0) rfl rfl fun u hu => ?_
      cases hu
      obtain ⟨fa, fxs, rfl, hfS, hfA⟩ := dp_sq (t := false) hF
      have lf := dpa_len hfA
      rw [List.length_map, List.length_map] at lf
      have hs10 : e'.M ≤ 10 ^ 50 := hps e' (List.mem_of_getElem? hge)
      rw [t0] at hs10 hM
      refine z_lcQ (t := false) (B := []) (xs := fxs) (fun R r => ⟨_, rfl, r fa H' (Ex.refl _ _) hfS⟩) (by omega) (fun k => (f'[k]?).bind fun q => if q.1 = n0 then some (pd (cst q)) else none) (by simp) (fun H1 x2 k x hx D G nn nB e1 N M hN hM => ?_) (fun D zs H1 hD1 hz1 lz hAz x2 => ?_)
      · obtain ⟨q, a, hq, rfl, hT⟩ := pair_at hfA hx
        have hT' := le_t (x2.trans e1).le0 hT
        have hk : ((f'[k]?).bind fun q => if q.1 = n0 then some (pd (cst q)) else none) = if q.1 = n0 then some (pd (cst q)) else none := by rw [hq]; rfl
        refine ⟨a, _, rfl, hT', rfl, _, _, rfl, _, _, rfl, rfl, rfl, _, rfl, _, rfl, rfl, _, rfl, ?_⟩
        by_cases c : q.1 = n0
        · rw [decide_eq_true (show V.int (q.1 : Nat) = V.int (n0 : Nat) by rw [c])]
          rw [if_pos c] at hk
          refine iteT ⟨_, rfl, _, rfl, show 2 ≤ sizeLine by decide, fun p hp => ?_⟩
          exact hN (pd (cst q)) _ _ hk (Ex.new hp) (.tup (SqT.of (wo_of (by simp only [List.mem_singleton]; exact fun z => nn (z ▸ hp)) upd_same)) (dpa_of_ints [(q.1 : Int), (q.2 : Int)]))
        · rw [decide_eq_false (show ¬ V.int (q.1 : Nat) = V.int (n0 : Nat) by
            intro z
            injection z with z
            exact c (by exact_mod_cast z))]
          rw [if_neg c] at hk
          exact iteF (hM hk _ (Ex.refl _ _))
      have eA : (List.range fxs.length).filterMap (fun k => (f'[k]?).bind fun q => if q.1 = n0 then some (pd (cst q)) else none) = ((f'.filter fun q => decide (q.1 = n0)).map cst).map pd := by
        rw [lf, range_bind, List.map_map]
        exact fm_filter _ _ _
      rw [eA] at hAz
      have lz1 := dpa_len hAz
      rw [List.length_map, List.length_map] at lz1
      have lfil : (f'.filter fun q => decide (q.1 = n0)).length ≤ f'.length := List.length_filter_le _ _
      have hM' := hM
      refine z_lcQ (t := false) (B := []) (xs := zs) (fun R r => ⟨_, rfl, r D H1 (Ex.refl _ _) (SqL.of hz1)⟩) (by omega) (fun k => ((f'.filter fun q => decide (q.1 = n0))[k]?).bind fun q => some (pd (cst ((cl ((q.1 : Int) * e'.M + e'.hs[q.2]?.getD 0 - ws[q.2]?.getD 0) e'.s).toNat, q.2)))) (by simp) (fun H2 x3 k x hx D2 G nn nB e1 N M hN _ => ?_) (fun D2 zs2 H2 hD2 hz2 lz2 hAz2 x3 => ?_)
      · obtain ⟨q, a, hq, rfl, hT⟩ := pair_at hAz hx
        have hT' := le_t (x3.trans e1).le0 (le_t (wo_le _ _) hT)
        have hqf := List.mem_of_getElem? hq
        obtain ⟨hq1, hq2⟩ := List.mem_filter.mp hqf
        have hq2 : q.1 = n0 := of_decide_eq_true hq2
        obtain ⟨h, w', n, eh, ew, hn', Aat, b1, b2⟩ := W'.at_up (t := q.1) (j := q.2) (hg.at_ hq1)
        have hwin := W'.wf.win eh ew
        have ht : (q.1 : Int) < e.M := by
          obtain ⟨_, _, _, _, F⟩ := hg.at_ hq1
          exact first_lt (by have := hwf.s0; have := hwf.sM; omega) F
        have hpos := W'.pos
        have hsM := W'.wf.sM
        have har := W'.around
        have tM0 : 0 ≤ (q.1 : Int) * e'.M := Int.mul_nonneg (by omega) (by omega)
        have big : (10 : Nat) ^ 60 = 1000000000000000000000000000000000000000000000000000000000000 := by decide
        have big2 : (10 : Int) ^ 60 = 1000000000000000000000000000000000000000000000000000000000000 := by decide
        have hx3 := x2.trans (x3.trans e1)
        refine ⟨a, _, rfl, hT', rfl, _, _, rfl, _, _, rfl, rfl, rfl, ?_⟩
        refine ⟨_, rfl, _, rfl, _, _, rfl, rfl, mulw_of (by omega) (by omega), _, rfl, _, rfl, ?_⟩
        refine z_ixD (t := false) (dp_le hx3.le0 _ _ h3) (Le.refl _) (j := q.2) rfl (by rw [List.getElem?_map, eh]; rfl) fun u hu => ?_
        cases hu
        refine ⟨_, _, rfl, rfl, _, rfl, _, rfl, ?_⟩
        refine z_ixD (t := false) (dp_le (x1.trans hx3).le0 _ _ hW) (Le.refl _) (j := q.2) rfl (by rw [List.getElem?_map, ew]; rfl) fun u hu => ?_
        cases hu
        refine ⟨_, _, rfl, rfl, _, rfl, _, rfl, _, _, rfl, rfl, divw_of hpos (by omega), _, rfl, _, rfl, show 2 ≤ sizeLine by decide, fun p hp => ?_⟩
        have ecl : -(-((q.1 : Int) * e'.M + h - w') / e'.s) = (n : Int) := hn'.symm
        have en : (cl ((q.1 : Int) * e'.M + e'.hs[q.2]?.getD 0 - ws[q.2]?.getD 0) e'.s).toNat = n := by
          rw [eh, ew]
          show (cl ((q.1 : Int) * e'.M + h - w') e'.s).toNat = n
          omega
        dsimp only
        rw [ecl]
        refine hN (pd (cst (n, q.2))) _ _ ?_ (Ex.new hp) (.tup (SqT.of (wo_of (by simp only [List.mem_singleton]; exact fun z => nn (z ▸ hp)) upd_same)) (dpa_of_ints [(n : Int), (q.2 : Int)]))
        rw [hq, ← en]
        rfl
      have eB : (List.range zs.length).filterMap (fun k => ((f'.filter fun q => decide (q.1 = n0))[k]?).bind fun q => some (pd (cst ((cl ((q.1 : Int) * e'.M + e'.hs[q.2]?.getD 0 - ws[q.2]?.getD 0) e'.s).toNat, q.2)))) = ((back ws e' n0 f').map cst).map pd := by
        rw [lz1, range_bind, back, List.map_map, List.map_map, ← List.filterMap_eq_map]
        rfl
      rw [eB] at hAz2
      have gB := W'.good hg (q0 := (n0, j0)) m0 (fun r hr => by
        have := lp.2 _ (List.mem_map.mpr ⟨r, hr, rfl⟩)
        unfold PLt cst at this
        simp only at this
        show n0 ≤ r.1
        omega)
      refine ⟨_, _, _, _, _, gs1', [e'] ++ gs2, e', back ws e' n0 f', .ref D2, rfl, by rw [eg, List.append_assoc], by rw [List.length_append, List.length_singleton]; omega, hc', gB, ?_, W'.wf, by rw [t0]; exact hs10, .lst (SqL.of hz2) (dpa_le (wo_le _ _) _ _ hAz2), x1.trans (x2.trans x3)⟩
      unfold back
      rw [List.length_map]
      omega
    · obtain ⟨u3, u4, u5, u6, u7, gs1, gs2, e, f', fv', rfl, eg, lg2, hc, hg, hn, hwf, hM, hF, x1⟩ := hP
      have l1 : gs1.length + gs2.length = ps.length := by rw [eg, List.length_append]
      have : gs1 = [] := List.eq_nil_of_length_eq_zero (by omega)
      subst this
      obtain rfl := hc.zero
      refine ⟨_, rfl, _, f'.map cst, rfl, hF, fun z => hg.ne (List.map_eq_nil_iff.mp z), fun z p lp hz => ?_⟩
      obtain ⟨n, k, rfl, _, la⟩ := least_at hg lp
      exact q n k z H' la hz x1
end
end Z10
set_option Elab.async false
set_option linter.all false
set_option maxRecDepth 100000
set_option maxHeartbeats 4000000
namespace Z10
open PySem PySem.Spec PyProof.Rows L2 Hz Hz.Win
section
variable {P : Program} {w : World} {K : PySem.W.Frag} {mg : Str → Option Value} {base : Heap}
local macro_rules | `(tactic| walk_at "un") => `(tactic| dsimp only [tSeq, tIfS, tRet, tAsg, tDrop, tOr, tAnd, tNot, tAndV, tOrV, tNotV, tTest, tB, tOp, tUn, tCB, tCons, tNil, tC, tNext, tIf, tChain, gName, tPar, tPar3, tTup, tLst])
/-- the least pair of steps and place -/
def spLst (K : PySem.W.Frag) : Sp := fun vs H Q _ => ∃ (hv wv : V) (hs ws : List Int) (s M : Int), vs = [hv, wv, .int s, .int M] ∧ Dp K H hv (.list (hs.map PyData.int)) ∧ Dp K H wv (.list (ws.map PyData.int)) ∧ Wf ws ⟨s, M, hs⟩ ∧ M ≤ 10 ^ 50 ∧ ws.length ≤ 10000 ∧
  (∀ H', (∀ n j, ¬ At ws ⟨s, M, hs⟩ n j) → Ex [] H H' → Q .non H') ∧
  ∀ n j v H', LAt ws ⟨s, M, hs⟩ n j → Dp K H' v (pd (cst (n, j))) → Ex [] H H' → Q v H'
def isLow (g : Pb) (ws : List Int) (k : Nat) : Bool := match g.hs[k]?, ws[k]? with
  | some h, some w => decide (h % g.s ≤ w)
  | _, _ => false
theorem isLow_of {g : Pb} {ws : List Int} {k : Nat} {h w : Int} (a : g.hs[k]? = some h) (b : ws[k]? = some w) : isLow g ws k = decide (h % g.s ≤ w) := by
  unfold isLow
  rw [a, b]
theorem ok_least_steps (T : Txt K mg) : FnOk P w K mg base CX0 2 T.a_least_steps T.d_least_steps P_least_steps (spLst K) := by
  have nd := sc_least_steps.nd
  have G_gone_back := ok_gone_back (P := P) (w := w) (base := base) T
  refine T.F_least_steps.ok sc_least_steps (fun vs H Q E h => ?_) (fun cdv A outer s H vs Q E hr h => ?_)
  · obtain ⟨hv, wv, hs, ws, s, M, rfl, _⟩ := h
    rfl
  · obtain ⟨hv, wv, hs, ws, st, N, rfl, hH, hW, hwf, hN, hlw, qn, q⟩ := h
    have hr_gone_back := hr
    refine ⟨_, (pss_cons (ps_set (i := 4) nd rfl (Or.inl rfl) (pe_lst pa_nil))
      (pss_cons (ps_while PassesOwn.never (pt_cmpR op_gt (pv 2) pe_int (nomark _)) (pss_cons (ps_setLc (i := 5) (own := [("high", 8)]) (by rfl) nd rfl rfl (sw_true rfl rfl rfl (by decide +kernel)) (pi_seqK K (pv 0)) (blkOk_by (N := N_least_steps) (own := [("high", 8)]) (sc := defScope s_least_steps) (by decide +kernel)) (fun _ _ _ _ _ => pg_name (i := 8) nd rfl (Or.inl rfl)) (fun _ _ _ _ _ => pts_nil) (fun _ _ _ _ _ => (pe_op op_mod (pv 8) (pv 2))))
      (pss_cons (ps_setLc (i := 6) (own := [("place", 9), ("rest", 10)]) (by rfl) nd rfl rfl (sw_true rfl rfl rfl (by decide +kernel)) (pi_enum (by rfl) T.z_enumerate (pa_cons (pv 5) pa_nil)) (blkOk_by (N := N_least_steps) (own := [("place", 9), ("rest", 10)]) (sc := defScope s_least_steps) (by decide +kernel)) (fun _ _ _ _ _ => (pg_tupK K 2 (by rfl) (pgs_cons (pg_name (i := 9) nd rfl (Or.inl rfl)) (pgs_cons (pg_name (i := 10) nd rfl (Or.inl rfl)) pgs_nil)))) (fun _ _ _ _ _ => (pts_one (pt_cmpR op_le (pv 10) (pe_ix (ixK K) (pv 1) (pv 9) (fun _ _ => rfl)) (nomark _)))) (fun _ _ _ _ _ => (pv 9)))
      (pss_cons (ps_if (pt_truth (pv 6) (fun _ => rfl)) (pss_cons (ps_setLc (i := 7) (own := [("place", 9)]) (by rfl) nd rfl rfl (sw_true rfl rfl rfl (by decide +kernel)) (pi_seqK K (pv 6)) (blkOk_by (N := N_least_steps) (own := [("place", 9)]) (sc := defScope s_least_steps) (by decide +kernel)) (fun _ _ _ _ _ => pg_name (i := 9) nd rfl (Or.inl rfl)) (fun _ _ _ _ _ => pts_nil) (fun _ _ _ _ _ => (pe_tup (pa_cons (pe_un un_neg (pe_op op_fdivW (pe_un un_neg (pe_op op_sub (pe_ix (ixK K) (pv 0) (pv 9) (fun _ _ => rfl)) (pe_ix (ixK K) (pv 1) (pv 9) (fun _ _ => rfl)))) (pv 2))) (pa_cons (pv 9) pa_nil)))))
      (pss_one (ps_ret (pe_call G_gone_back hr_gone_back (by rfl) T.m_gone_back T.k_gone_back T.b_gone_back .nil pass0 (pa_cons (pv 4) (pa_cons (pv 1) (pa_cons (pv 7) pa_nil))))))) pss_nil)
      (pss_cons (ps_expr (pe_bm PySem.F.plainAttrs_list PySem.F.slot_list_append PySem.F.type_list_append mt_append (pv 4) (pa_cons (pe_tup (pa_cons (pv 2) (pa_cons (pv 3) (pa_cons (pv 0) pa_nil)))) pa_nil)))
      (pss_cons (ps_asg (pe_tup (pa_cons (pe_op op_mod (pv 3) (pv 2)) (pa_cons (pv 2) pa_nil))) (pg_tupK K 2 (by rfl) (pgs_cons (pg_name (i := 2) nd rfl (Or.inr rfl)) (pgs_cons (pg_name (i := 3) nd rfl (Or.inr rfl)) pgs_nil))))
      (pss_one (ps_if (pt_cmpR op_gt (pe_op op_mul pe_int (pv 2)) (pv 3) (nomark _)) (pss_one (ps_asg (pe_tup (pa_cons (pe_op op_sub (pv 3) (pv 2)) (pa_cons (pv 5) pa_nil))) (pg_tupK K 2 (by rfl) (pgs_cons (pg_name (i := 2) nd rfl (Or.inr rfl)) (pgs_cons (pg_name (i := 0) nd rfl (Or.inr rfl)) pgs_nil))))) (pss_one (ps_set (i := 0) nd rfl (Or.inr rfl) (pe_lc (own := [("rest", 10), ("wide", 11)]) (by rfl) nd (RZ.pi_zipA (by rfl) T.z_zip (pa_cons (pv 5) (pa_cons (pv 1) pa_nil))) (blkOk_by (N := N_least_steps) (own := [("rest", 10), ("wide", 11)]) (sc := defScope s_least_steps) (by decide +kernel)) (fun _ _ _ _ _ => (pg_tupK K 2 (by rfl) (pgs_cons (pg_name (i := 10) nd rfl (Or.inl rfl)) (pgs_cons (pg_name (i := 11) nd rfl (Or.inl rfl)) pgs_nil)))) (fun _ _ _ _ _ => pts_nil) (fun _ _ _ _ _ => (pe_op op_add (pe_op op_sub (pv 3) (pv 10)) (pv 11))))))))))))))
      (pss_one (ps_ret pe_non)))), ?_⟩
    walk_at "un"
    refine ⟨Nat.zero_le _, fun L hL => ?_⟩
    have x1 := Ex.new (B := []) (o := .lst []) hL
    have t0 : (10 : Int) ^ 50 = 100000000000000000000000000000000000000000000000000 := by decide
    rw [t0] at hN
    have wo1 : ∀ {G : Hp}, Ex [] H G → Le H (wo [L] G) := fun e a o h => wo_of (by simp only [List.mem_singleton]; exact fun z => by rw [z, hL] at h; cases h) (e.1 _ _ (by simp) h)
    refine ⟨fun c σ H' => ∃ (g : Pb) (gs : List Pb) (rs : List V) (hv : V) (u5 u6 u7 : Option V), σ = [some hv, some wv, some (.int g.s), some (.int g.M), some (.ref L), u5, u6, u7, none, none, none, none] ∧ c = g.s.toNat ∧ H' L = some (.lst rs) ∧ DpAll K (wo [L] H') rs (gs.map ringD) ∧ Dp K (wo [L] H') hv (.list (g.hs.map PyData.int)) ∧ Ch ws ⟨st, N, hs⟩ gs g ∧ Wf ws g ∧ (∀ p ∈ gs, p.M ≤ N) ∧ g.M ≤ N ∧ 2 ^ gs.length * g.s ≤ st ∧ Ex [] H H' ∧ gs.length ≤ 500,
      ⟨st.toNat, ⟨st, N, hs⟩, [], [], hv, _, _, _, rfl, rfl, upd_same, .nil, dp_le (wo1 x1) _ _ hH, .nil, hwf, by simp, Int.le_refl _, by simp, x1, by simp⟩, fun c σ H' hw => ?_⟩
    obtain ⟨g, gs, rs, hv, u5, u6, u7, rfl, rfl, hHL, hat, hG, hch, gwf, hgA, hA, hmul, x2, lg⟩ := hw
    refine ⟨_, rfl, _, _, rfl, rfl, _, rfl, ite2 (fun c => ?_) (fun c => ?_)⟩
    · have s0 : 0 < g.s := of_decide_eq_true c
      have l0 := gwf.len
      have hst : st < N := hwf.sM
      have lg4 : gs.length ≤ 400 := pow_len (show 1 ≤ g.s by omega) hmul (by
        have : (10 : Int) ^ 50 ≤ 10 ^ 110 := by decide
        omega)
      obtain ⟨ha, hxs, rfl, hhS, hhA⟩ := dp_sq (t := false) hG
      have lh := dpa_len hhA
      rw [List.length_map] at lh
      have hhS' : SqL K H' ha hxs := le_l (wo_le _ _) hhS
      refine ⟨_, fun _ _ hh => hh, ?_⟩
      walk_at "un"
      refine z_lcP1 (t := false) (xs := hxs) (fun R r => ⟨_, rfl, r ha H' (Ex.refl _ _) hhS'⟩) (by omega) (fun k => ((g.hs[k]?).map fun h => V.int (h % g.s)).getD .non) (fun k y H1 hy y1 Nx hN' => ?_) (fun D H1 hD hz y1 => ?_)
      · obtain ⟨d, hd, hDy⟩ := dpa_get' hhA hy
        rw [List.getElem?_map] at hd
        obtain ⟨h, eh, rfl⟩ := Option.map_eq_some_iff.mp hd
        cases hDy
        refine ⟨rfl, _, rfl, _, rfl, _, _, rfl, rfl, s0, ?_⟩
        have := hN' H1 (Ex.refl _ _)
        rw [eh] at this
        exact this
      rw [lh, map_at] at hz
      have other : ∀ {k : Nat} {h : Int}, g.hs[k]? = some h → ∃ w, ws[k]? = some w := fun {k h} e => by
        obtain ⟨l, _⟩ := List.getElem?_eq_some_iff.mp e
        exact ⟨_, List.getElem?_eq_getElem (by omega)⟩
      refine z_lcE (xs := g.hs.map fun h => V.int (h % g.s)) (fun R r => ⟨_, rfl, r D H1 (Ex.refl _ _) (SqL.of hz)⟩) (by rw [List.length_map]; omega) (isLow g ws) (fun k => V.int k) (fun k y T2 H2 hy y2 hT2 Nx Mx hN' hM' => ?_) (fun D2 H2 hD2 hz2 y2 => ?_)
      · rw [List.getElem?_map] at hy
        obtain ⟨h, eh, rfl⟩ := Option.map_eq_some_iff.mp hy
        obtain ⟨w', ew⟩ := other eh
        have el := isLow_of eh ew
        refine ⟨T2, _, rfl, SqT.of hT2, rfl, _, _, rfl, _, _, rfl, rfl, rfl, _, rfl, _, rfl, _, rfl, ?_⟩
        refine z_ixD (t := false) (dp_le (x2.trans (y1.trans y2)).le0 _ _ hW) (Le.refl _) (j := k) rfl (by rw [List.getElem?_map, ew]; rfl) fun u hu => ?_
        cases hu
        refine ⟨_, _, rfl, rfl, _, rfl, ?_⟩
        rw [← el]
        cases eb : isLow g ws k with
        | true => exact iteT ⟨_, rfl, hN' eb _ (Ex.refl _ _)⟩
        | false => exact iteF (hM' eb _ (Ex.refl _ _))
      rw [List.length_map, l0] at hz2
      have mem : ∀ j, j ∈ (List.range ws.length).filter (isLow g ws) ↔ ∃ h w, g.hs[j]? = some h ∧ ws[j]? = some w ∧ h % g.s ≤ w := fun j => by
        rw [List.mem_filter, List.mem_range]
        refine ⟨fun ⟨a, b⟩ => ?_, fun ⟨h, w, eh, ew, b⟩ => ?_⟩
        · have eh : g.hs[j]? = some g.hs[j] := List.getElem?_eq_getElem (by omega)
          have ew : ws[j]? = some ws[j] := List.getElem?_eq_getElem a
          rw [isLow_of eh ew] at b
          exact ⟨_, _, eh, ew, of_decide_eq_true b⟩
        · rw [isLow_of eh ew]
          exact ⟨(List.getElem?_eq_some_iff.mp ew).1, decide_eq_true b⟩
      have lps : ((List.range ws.length).filter (isLow g ws)).length ≤ ws.length := by
        have := List.length_filter_le (isLow g ws) (List.range ws.length)
        rwa [List.length_range] at this
      generalize (List.range ws.length).filter (isLow g ws) = pls at mem hz2 lps
      refine ⟨_, rfl, _, .inl ⟨_, SqL.of hz2, rfl⟩, ?_⟩
      have y12 := y1.trans y2
      have x3 := x2.trans y12
      by_cases ne : pls = []
      · subst ne
        refine iteF ?_
        have lrs := dpa_len hat
        rw [List.length_map] at lrs
        have hL0 : H L = none := hL
        have hHL2 : H2 L = some (.lst rs) := y12.get (by simp) hHL
        refine ⟨_, rfl, .inl ⟨rfl, _, SqL.of hHL2⟩, _, rfl, _, rfl, _, rfl, show 3 ≤ sizeLine by decide, fun p hp => ?_⟩
        have y3 := Ex.new (B := []) (o := .tup [.int g.s, .int g.M, .ref ha]) hp
        have pL : p ≠ L := fun z => by rw [z, hHL2] at hp; cases hp
        refine ⟨L, _, _, rfl, rfl, y3.get (by simp) hHL2, sz_lt (by omega), ?_⟩
        have w1 : ∀ {G : Hp} {o : HO}, Le (wo [L] G) (wo [L] (upd G L o)) := fun a o h => by
          obtain ⟨n1, n2⟩ := wo_some h
          exact wo_of n1 (by rw [upd_ne (fun z => n1 (by rw [z]; exact List.mem_singleton.mpr rfl))]; exact n2)
        have w2 : Le (wo [L] H') (wo [L] (upd (upd H2 p (.tup [.int g.s, .int g.M, .ref ha])) L (.lst (rs ++ [.ref p])))) := Le.trans (y12.trans y3).nil.wo w1
        have hX : Ex [] H (upd (upd H2 p (.tup [.int g.s, .int g.M, .ref ha])) L (.lst (rs ++ [.ref p]))) := (x3.trans y3).mutNew' hL0
        have hD5 : upd (upd H2 p (.tup [.int g.s, .int g.M, .ref ha])) L (.lst (rs ++ [.ref p])) D = some (.lst (g.hs.map fun h => V.int (h % g.s))) := by
          have : H2 D = some (.lst (g.hs.map fun h => V.int (h % g.s))) := y2.get (by simp) hz
          rw [upd_ne (fun z => by rw [z] at hD; rw [hHL] at hD; cases hD)]
          exact y3.get (by simp) this
        have DL : D ≠ L := fun z => by rw [z] at hD; rw [hHL] at hD; cases hD
        have hat2 : DpAll K (wo [L] (upd (upd H2 p (.tup [.int g.s, .int g.M, .ref ha])) L (.lst (rs ++ [.ref p])))) (rs ++ [.ref p]) ((gs ++ [g]).map ringD) := by
          rw [List.map_append]
          refine dpa_snoc (dpa_le w2 _ _ hat) (.tup (SqT.of (wo_of (by simpa using pL) (by rw [upd_ne pL]; exact upd_same))) (.cons (.int _) (.cons (.int _) (.cons (dp_le w2 _ _ hG) .nil))))
        have hLnow : upd (upd H2 p (.tup [.int g.s, .int g.M, .ref ha])) L (.lst (rs ++ [.ref p])) L = some (.lst (rs ++ [.ref p])) := upd_same
        generalize upd (upd H2 p (.tup [.int g.s, .int g.M, .ref ha])) L (.lst (rs ++ [.ref p])) = Hb at hX hD5 hat2 hLnow ⊢
        have fin : ∀ (g' : Pb) (hv' : V) (H5 : Hp) (v5 v6 v7 : Option V), Low ws g g' → 2 * g'.s ≤ g.s → Ex [] Hb H5 → Dp K (wo [L] H5) hv' (.list (g'.hs.map PyData.int)) →
            ∃ m', m' < g.s.toNat ∧ ∃ (g : Pb) (gs : List Pb) (rs : List V) (hv : V) (u5 u6 u7 : Option V), [some hv', some wv, some (.int g'.s), some (.int g'.M), some (.ref L), v5, v6, v7, none, none, none, none] = [some hv, some wv, some (.int g.s), some (.int g.M), some (.ref L), u5, u6, u7, none, none, none, none] ∧ m' = g.s.toNat ∧ H5 L = some (.lst rs) ∧ DpAll K (wo [L] H5) rs (gs.map ringD) ∧ Dp K (wo [L] H5) hv (.list (g.hs.map PyData.int)) ∧ Ch ws ⟨st, N, hs⟩ gs g ∧ Wf ws g ∧ (∀ p ∈ gs, p.M ≤ N) ∧ g.M ≤ N ∧ 2 ^ gs.length * g.s ≤ st ∧ Ex [] H H5 ∧ gs.length ≤ 500 := fun g' hv' H5 v5 v6 v7 lo hs2 e5 hd => by
          have g0 := lo.wf'.s0
          refine ⟨g'.s.toNat, by omega, g', gs ++ [g], rs ++ [.ref p], hv', _, _, _, rfl, rfl, e5.get (by simp) hLnow, dpa_le e5.nil.wo _ _ hat2, hd, .snoc hch lo, lo.wf', fun q hq => ?_, by rw [lo.around]; have := gwf.sM; omega, ?_, hX.trans e5, by rw [List.length_append]; show gs.length + 1 ≤ 500; omega⟩
          · rcases List.mem_append.mp hq with h | h
            · exact hgA q h
            · rw [List.mem_singleton.mp h]; exact hA
          · have p0 : (0 : Int) ≤ 2 ^ gs.length := Int.pow_nonneg (by decide)
            have h2 := Int.mul_le_mul_of_nonneg_left hs2 p0
            rw [List.length_append, List.length_singleton, Int.pow_succ, Int.mul_assoc]
            exact Int.le_trans h2 hmul
        have no : ∀ {j : Nat} {h w : Int}, g.hs[j]? = some h → ws[j]? = some w → w < h % g.s := fun {j h w} eh ew => by
          rcases Int.lt_or_le w (h % g.s) with c | c
          · exact c
          · exact absurd ((mem j).mpr ⟨h, w, eh, ew, c⟩) (by simp)
        have m0 := Int.emod_nonneg g.M (Int.ne_of_gt s0)
        have m1 := Int.emod_lt_of_pos g.M s0
        refine ⟨_, rfl, _, rfl, _, _, rfl, rfl, s0, _, rfl, show 2 ≤ sizeLine by decide, fun p2 hp2 => ?_⟩
        refine ⟨p2, _, rfl, SqT.of upd_same, rfl, _, _, rfl, _, _, rfl, rfl, ?_⟩
        have z2 := Ex.new (B := []) (o := .tup [.int (g.M % g.s), .int g.s]) hp2
        walk_at "un"
        refine ⟨_, rfl, _, _, rfl, rfl, .inl ⟨by decide, by decide⟩, _, rfl, _, _, rfl, rfl, _, rfl, ite2 (fun c3 => ?_) (fun c3 => ?_)⟩
        · have c3 : g.s < 2 * (g.M % g.s) := of_decide_eq_true c3
          refine ⟨_, rfl, _, rfl, _, _, rfl, rfl, _, rfl, show 2 ≤ sizeLine by decide, fun p3 hp3 => ?_⟩
          refine ⟨p3, _, rfl, SqT.of upd_same, rfl, _, _, rfl, _, _, rfl, rfl, ?_⟩
          have z3 := Ex.new (B := []) (o := .tup [.int (g.s - g.M % g.s), .ref D]) hp3
          refine fin ⟨g.s - g.M % g.s, g.s, g.hs.map fun h => h % g.s⟩ (.ref D) _ _ _ _ (Low.of2 gwf s0 no (by omega) (by rw [List.length_map]; exact l0) fun {j h w h'} eh ew e' => ?_) (by show 2 * (g.s - g.M % g.s) ≤ g.s; omega) (z2.trans z3) ?_
          · rw [List.getElem?_map, eh] at e'
            cases e'
            rfl
          · rw [List.map_map]
            exact dp_il (ns := g.hs.map fun h => h % g.s) (wo_of (by simpa using DL) ((z2.trans z3).get (by simp) (by rw [List.map_map]; exact hD5))) |> fun h => by rwa [List.map_map] at h
        · have c3 : ¬ g.s < 2 * (g.M % g.s) := of_decide_eq_false (Bool.eq_false_iff.mpr c3)
          obtain ⟨wa, wxs, ewv, hwS, hwA⟩ := dp_sq (t := false) hW
          subst ewv
          have lw := dpa_len hwA
          rw [List.length_map] at lw
          refine z_lcZN (t := false) (n := ws.length) (xs := g.hs.map fun h => V.int (h % g.s)) (ys := wxs) (by rw [List.length_map]; omega) (by omega) (.inr (by omega)) (by omega) (fun R r => ⟨_, rfl, _, rfl, r D wa _ (Ex.refl _ _) (SqL.of (z2.get (by simp) hD5)) (le_l (hX.trans z2).le0 hwS)⟩) (fun i => V.int (g.s - g.hs[i]?.getD 0 % g.s + ws[i]?.getD 0)) (fun i y z T3 H4 hy hz4 e4 hT3 Nx hN' => ?_) (fun D4 H4 hD4 hz4 e4 => ?_)
          · rw [List.getElem?_map] at hy
            obtain ⟨h, eh, rfl⟩ := Option.map_eq_some_iff.mp hy
            obtain ⟨d, hd, hDz⟩ := dpa_get' hwA hz4
            rw [List.getElem?_map] at hd
            obtain ⟨w', ew, rfl⟩ := Option.map_eq_some_iff.mp hd
            cases hDz
            refine ⟨T3, _, rfl, SqT.of hT3, rfl, _, _, rfl, _, _, rfl, rfl, rfl, ?_⟩
            refine ⟨_, rfl, _, rfl, _, _, rfl, rfl, _, rfl, _, _, rfl, rfl, ?_⟩
            have := hN' H4 (Ex.refl _ _)
            rw [eh, ew] at this
            exact this
          · refine fin ⟨g.M % g.s, g.s, (List.range ws.length).map fun i => g.s - g.hs[i]?.getD 0 % g.s + ws[i]?.getD 0⟩ (.ref D4) _ _ _ _ (Low.of1 gwf s0 no (by rw [List.length_map, List.length_range]) fun {j h w h'} eh ew e' => ?_) (by show 2 * (g.M % g.s) ≤ g.s; omega) (z2.trans e4) ?_
            · have lj : j < ws.length := (List.getElem?_eq_some_iff.mp ew).1
              rw [List.getElem?_map, List.getElem?_range lj] at e'
              cases e'
              show g.s - g.hs[j]?.getD 0 % g.s + ws[j]?.getD 0 = _
              rw [eh, ew]
              rfl
            · refine dp_il (wo_of ?_ (by rw [hz4, List.map_map]; rfl))
              simp only [List.mem_singleton]
              exact fun z => by rw [z] at hD4; rw [z2.get (by simp) hLnow] at hD4; cases hD4
      · rw [show (!((pls.map fun k : Nat => V.int k).isEmpty)) = true by
          cases pls with
          | nil => exact absurd rfl ne
          | cons a l => rfl]
        refine iteT ?_
        refine z_lcQ (t := false) (B := []) (xs := pls.map fun k : Nat => V.int k) (fun R r => ⟨_, rfl, r D2 H2 (Ex.refl _ _) (SqL.of hz2)⟩) (by rw [List.length_map]; omega) (fun k => (pls[k]?).bind fun j => some (pd (cst ((cl (g.hs[j]?.getD 0 - ws[j]?.getD 0) g.s).toNat, j)))) (by simp) (fun H3 y3 k y hy D3 G nn nB e1 Nx Mx hN' _ => ?_) (fun D3 zs H3 hD3 hz3 lz hAz y3 => ?_)
        · rw [List.getElem?_map] at hy
          obtain ⟨j, ej, rfl⟩ := Option.map_eq_some_iff.mp hy
          obtain ⟨h, w', eh, ew, hr'⟩ := (mem j).mp (List.mem_of_getElem? ej)
          have hwin := gwf.win eh ew
          obtain ⟨n, hn', _, _⟩ := first_flat s0 gwf.sM hwin.1 hwin.2.1 hwin.2.2 hr'
          have big2 : (10 : Int) ^ 60 = 1000000000000000000000000000000000000000000000000000000000000 := by decide
          have hx3 := y12.trans (y3.trans e1)
          refine ⟨rfl, ?_⟩
          refine ⟨_, rfl, _, rfl, ?_⟩
          refine z_ixD (t := false) (dp_le (Le.trans (wo_le _ _) hx3.le0) _ _ hG) (Le.refl _) (j := j) rfl (by rw [List.getElem?_map, eh]; rfl) fun u hu => ?_
          cases hu
          refine ⟨_, rfl, _, rfl, ?_⟩
          refine z_ixD (t := false) (dp_le (x2.trans hx3).le0 _ _ hW) (Le.refl _) (j := j) rfl (by rw [List.getElem?_map, ew]; rfl) fun u hu => ?_
          cases hu
          have hst : g.s ≤ N := by have := gwf.sM; omega
          refine ⟨_, _, rfl, rfl, _, rfl, _, rfl, _, _, rfl, rfl, divw_of s0 (by omega), _, rfl, _, rfl, show 2 ≤ sizeLine by decide, fun p hp => ?_⟩
          have ecl : -(-(h - w') / g.s) = (n : Int) := hn'.symm
          have en : (cl (g.hs[j]?.getD 0 - ws[j]?.getD 0) g.s).toNat = n := by
            rw [eh, ew]
            show (cl (h - w') g.s).toNat = n
            omega
          dsimp only
          rw [ecl]
          refine hN' (pd (cst (n, j))) _ _ ?_ (Ex.new hp) (.tup (SqT.of (wo_of (by simp only [List.mem_singleton]; exact fun z => nn (z ▸ hp)) upd_same)) (dpa_of_ints [(n : Int), (j : Int)]))
          rw [ej, ← en]
          rfl
        have eB : (List.range (pls.map fun k : Nat => V.int k).length).filterMap (fun k => (pls[k]?).bind fun j => some (pd (cst ((cl (g.hs[j]?.getD 0 - ws[j]?.getD 0) g.s).toNat, j)))) = ((pls.map fun j => ((cl (g.hs[j]?.getD 0 - ws[j]?.getD 0) g.s).toNat, j)).map cst).map pd := by
          rw [List.length_map, range_bind, List.map_map, List.map_map, ← List.filterMap_eq_map]
          rfl
        rw [eB] at hAz
        have y13 := y12.trans y3
        have hHL3 : H3 L = some (.lst rs) := y13.get (by simp) hHL
        refine ⟨_, rfl, _, rfl, _, rfl, L, rs, wv, .ref D3, ws, gs, ⟨st, N, hs⟩, g, pls.map fun j => ((cl (g.hs[j]?.getD 0 - ws[j]?.getD 0) g.s).toNat, j), rfl, SqL.of hHL3, dpa_le (Le.trans (wo_le _ _) y13.le0) _ _ hat, dp_le (x2.trans y13).le0 _ _ hW, .lst (SqL.of hz3) (dpa_le (wo_le _ _) _ _ hAz), hch, good_flat gwf s0 ne mem, by rw [List.length_map]; omega, gwf, by rw [t0]; omega, fun p hp => by rw [t0]; have := hgA p hp; omega, fun n j v H4 la hd e4 => q n j v H4 la hd ((x2.trans y13).trans e4)⟩
    · have s0 : g.s = 0 := by
        have := of_decide_eq_false (Bool.eq_false_iff.mpr c)
        have := gwf.s0
        omega
      exact qn H' (hch.none (none_zero gwf s0)) x2
end
end Z10
set_option Elab.async false
set_option linter.all false
set_option maxRecDepth 100000
set_option maxHeartbeats 4000000
namespace Z10
open PySem PySem.Spec PyProof.Rows L2 Hz
section
variable {P : Program} {w : World} {K : PySem.W.Frag} {mg : Str → Option Value} {base : Heap}
local macro_rules | `(tactic| walk_at "go") => `(tactic| repeat (first | refine ⟨_, rfl, ?_⟩ | refine ⟨_, _, rfl, rfl, ?_⟩ | refine ⟨_, _, rfl, .inl (by assumption), ?_⟩ | refine ⟨(by show (0 : Int) < _; first | decide | omega), ?_⟩ | refine ⟨(by first | exact Or.inl ⟨by decide, by decide⟩ | exact Or.inr ⟨by decide, by decide⟩ | exact Or.inl ⟨by omega, by omega⟩ | exact Or.inr ⟨by omega, by omega⟩), ?_⟩ | refine ⟨divw_of (by decide) (by decide), ?_⟩ | refine ⟨⟨by decide, by decide, by decide⟩, ?_⟩ | refine Or.inr ⟨_, rfl, ?_⟩ | refine z_ixL (by assumption) rfl ?_ | refine z_ixL upd_same rfl ?_ | refine ⟨_, _, _, _, rfl, rfl, by assumption, rfl, ?_⟩))
local macro_rules | `(tactic| walk_at "un") => `(tactic| dsimp only [tSeq, tIfS, tRet, tAsg, tDrop, tOr, tAnd, tNot, tAndV, tOrV, tNotV, tTest, tB, tOp, tUn, tCB, tCons, tNil, tC, tNext, tIf, tChain, gName])
/-- lists for tuples -/
def spLists (K : PySem.W.Frag) (N : Nat) : Sp := fun vs H Q _ => ∃ (B : List Addr) (v : V) (d : PyData), vs = [v] ∧ Dp K (wo B H) v d ∧ dpt N d ∧ (∀ b, b ∈ B → H b ≠ none) ∧ ∀ v' H', Ex [] H H' → Dp K (wo B H') v' (listed d) → Q v' H'
/-- two things that are alike -/
def spSame (K : PySem.W.Frag) (N : Nat) : Sp := fun vs H Q _ => ∃ (u v : V) (d : PyData), vs = [u, v] ∧ Dp K H u d ∧ Dp K H v d ∧ dpt N d ∧ ∀ H', Ex [] H H' → Q (.bl true) H'
theorem ok_same_one (T : Txt K mg) (N : Nat) (sp' : Sp) (G__law_same : FnOk P w K mg base CX0 N T.a__law_same T.d__law_same P__law_same sp') (hsp : N = 0 ∨ ∃ M, N = M + 1 ∧ sp' = spSame K M) :
    FnOk P w K mg base CX0 (N + 1) T.a__law_same T.d__law_same P__law_same (spSame K N) := by
  have nd := sc__law_same.nd
  refine T.F__law_same.ok sc__law_same (fun vs H Q E h => ?_) (fun cdv A outer s H vs Q E hr h => ?_)
  · obtain ⟨u, v, d, rfl, _⟩ := h
    rfl
  · obtain ⟨u, v, d, rfl, hU, hV, hN, q⟩ := h
    have hr__law_same := hr
    refine ⟨_, (pss_cons (ps_if (pt_val (pe_callB (isiTK K) (by rfl) T.z_isinstance (by decide +kernel) (pa_cons (pv 1) (pa_cons (pe_tup (pa_cons (pe_bltn (by rfl) T.z_list (by decide +kernel) (v := .ty "list") rfl) (pa_cons (pe_bltn (by rfl) T.z_tuple (by decide +kernel) (v := .ty "tuple") rfl) pa_nil))) pa_nil)))) (pss_cons (ps_if (PW.pt (pw_or (pt_cmpR op_ne (pe_callB (isiK K) (by rfl) T.z_isinstance (by decide +kernel) (pa_cons (pv 0) (pa_cons (pe_bltn (by rfl) T.z_list (by decide +kernel) (v := .ty "list") rfl) pa_nil))) (pe_callB (isiK K) (by rfl) T.z_isinstance (by decide +kernel) (pa_cons (pv 1) (pa_cons (pe_bltn (by rfl) T.z_list (by decide +kernel) (v := .ty "list") rfl) pa_nil))) (nomark _)) (pw_or1 (pt_cmpR op_ne (pe_callB (isiK K) (by rfl) T.z_isinstance (by decide +kernel) (pa_cons (pv 0) (pa_cons (pe_bltn (by rfl) T.z_tuple (by decide +kernel) (v := .ty "tuple") rfl) pa_nil))) (pe_callB (isiK K) (by rfl) T.z_isinstance (by decide +kernel) (pa_cons (pv 1) (pa_cons (pe_bltn (by rfl) T.z_tuple (by decide +kernel) (v := .ty "tuple") rfl) pa_nil))) (nomark _))))) (pss_one (ps_ret pe_bl)) pss_nil)
      (pss_one (ps_ret (pe_and (pe_cmpR op_eq (pe_callB (lenK K) (by rfl) T.z_len (by decide +kernel) (pa_cons (pv 0) pa_nil)) (pe_callB (lenK K) (by rfl) T.z_len (by decide +kernel) (pa_cons (pv 1) pa_nil)) (nomark _)) (pe_one (pe_callB (allK K) (by rfl) T.z_all (by decide +kernel) (pa_cons (pe_lc (own := [("_law_mine", 2), ("_law_its", 3)]) (by rfl) nd (RZ.pi_zipA (by rfl) T.z_zip (pa_cons (pv 0) (pa_cons (pv 1) pa_nil))) (blkOk_by (N := N__law_same) (own := [("_law_mine", 2), ("_law_its", 3)]) (sc := defScope s__law_same) (by decide +kernel)) (fun _ _ _ _ _ => (pg_tupK K 2 (by rfl) (pgs_cons (pg_name (i := 2) nd rfl (Or.inl rfl)) (pgs_cons (pg_name (i := 3) nd rfl (Or.inl rfl)) pgs_nil)))) (fun _ _ _ _ _ => pts_nil) (fun _ _ _ _ _ => (pe_call G__law_same hr__law_same (by rfl) T.m__law_same T.k__law_same T.b__law_same .nil pass0 (pa_cons (pv 2) (pa_cons (pv 3) pa_nil))))) pa_nil))))))) pss_nil)
      (pss_cons (ps_if (PW.pt (pw_or (pt_cmpR op_isN (pv 1) pe_non (nomark _)) (pw_or1 (pt_val (pe_callB (isiK K) (by rfl) T.z_isinstance (by decide +kernel) (pa_cons (pv 1) (pa_cons (pe_bltn (by rfl) T.z_str (by decide +kernel) (v := .ty "str") rfl) pa_nil))))))) (pss_one (ps_ret (pe_and (pe_cmpR op_eq (pv 0) (pv 1) (nomark _)) (pe_one (pe_cmpR op_eq (pe_callB (isiK K) (by rfl) T.z_isinstance (by decide +kernel) (pa_cons (pv 0) (pa_cons (pe_bltn (by rfl) T.z_str (by decide +kernel) (v := .ty "str") rfl) pa_nil))) (pe_callB (isiK K) (by rfl) T.z_isinstance (by decide +kernel) (pa_cons (pv 1) (pa_cons (pe_bltn (by rfl) T.z_str (by decide +kernel) (v := .ty "str") rfl) pa_nil))) (nomark _)))))) pss_nil)
      (pss_one (ps_ret (pe_and (pe_callB (isiK K) (by rfl) T.z_isinstance (by decide +kernel) (pa_cons (pv 0) (pa_cons (pe_bltn (by rfl) T.z_int (by decide +kernel) (v := .ty "int") rfl) pa_nil))) (pe_and (pe_cmpR op_eq (pe_callB (isiK K) (by rfl) T.z_isinstance (by decide +kernel) (pa_cons (pv 0) (pa_cons (pe_bltn (by rfl) T.z_bool (by decide +kernel) (v := .ty "bool") rfl) pa_nil))) (pe_callB (isiK K) (by rfl) T.z_isinstance (by decide +kernel) (pa_cons (pv 1) (pa_cons (pe_bltn (by rfl) T.z_bool (by decide +kernel) (v := .ty "bool") rfl) pa_nil))) (nomark _)) (pe_one (pe_cmpR op_eq (pv 0) (pv 1) (nomark _))))))))), ?_⟩
    refine ⟨_, rfl, (by show 2 ≤ sizeLine; decide), fun p hp => ?_⟩
    have x1 : Ex [] H (upd H p (.tup [.ty "list", .ty "tuple"])) := Ex.new hp
    have hU1 := dp_le x1.le0 _ _ hU
    have hV1 := dp_le x1.le0 _ _ hV
    dsimp only [tNil]
    refine z_isiLT hV1 upd_same ?_
    refine ⟨_, rfl, ?_⟩
    generalize upd H p (.tup [.ty "list", .ty "tuple"]) = H1 at x1 hU1 hV1 ⊢
    have h1 : "list" = "list" ∨ ("list" : String) = "tuple" ∨ ("list" : String) = "bool" ∨ ("list" : String) = "int" ∨ ("list" : String) = "str" := .inl rfl
    have h2 : ("tuple" : String) = "list" ∨ ("tuple" : String) = "tuple" ∨ ("tuple" : String) = "bool" ∨ ("tuple" : String) = "int" ∨ ("tuple" : String) = "str" := .inr (.inl rfl)
    have h3 : ("bool" : String) = "list" ∨ ("bool" : String) = "tuple" ∨ ("bool" : String) = "bool" ∨ ("bool" : String) = "int" ∨ ("bool" : String) = "str" := .inr (.inr (.inl rfl))
    have h4 : ("int" : String) = "list" ∨ ("int" : String) = "tuple" ∨ ("int" : String) = "bool" ∨ ("int" : String) = "int" ∨ ("int" : String) = "str" := .inr (.inr (.inr (.inl rfl)))
    have h5 : ("str" : String) = "list" ∨ ("str" : String) = "tuple" ∨ ("str" : String) = "bool" ∨ ("str" : String) = "int" ∨ ("str" : String) = "str" := .inr (.inr (.inr (.inr rfl)))
    have qt := q H1 x1
    have deep : ∀ (t : Bool) (ds : List PyData), d = sq t ds → tCB (rAll K) (tCons (tLc (RZ.iZipA K (tCons (tVar 0) (tCons (tVar 1) tNil))) (gTup K 2 (gCons (gName 2) (gCons (gName 3) gNil))) tYes (tCall sp' [] E0 (tCons (tVar 2) (tCons (tVar 3) tNil))) [2, 3]) tNil) (L2.start N__law_same [u, v]) H1 Q := fun t ds e => by
      have hM : ∃ M, sp' = spSame K M ∧ ds.length ≤ 1000 ∧ ∀ d ∈ ds, dpt M d := by
        rcases hsp with rfl | ⟨M, rfl, rfl⟩
        · exfalso; subst e; cases t <;> exact hN
        · refine ⟨M, rfl, ?_⟩
          subst e
          cases t <;> exact hN
      obtain ⟨M, rfl, hl, hds⟩ := hM
      subst e
      obtain ⟨a, xs, rfl, hS, hA⟩ := dp_sq hU1
      obtain ⟨b, ys, rfl, hS2, hA2⟩ := dp_sq hV1
      have ll := dpa_len hA
      have ll2 := dpa_len hA2
      walk_at "un"
      refine z_lcZ (B := []) (C := []) (t := t) (xs := xs) (ys := ys) (by omega) (fun R r => ⟨_, rfl, _, rfl, r a b H1 (Ex.refl _ _) (by rw [wo_nil]; exact hS) (by rw [wo_nil]; exact hS2)⟩) (fun _ z _ => z = .bl true) (fun _ _ => True)
        (fun H2 x2 => lcOk0 (by omega)) (fun H2 x2 i x y hx hy D T0 H' hD' nB e1 _ tD nTD hT0 N hN => ?_) (fun H2 x2 D zs H' hD' hz lz rz e1 _ => ?_)
      · obtain ⟨d, hd, hdD⟩ := dpa_get' hA hx
        obtain ⟨d', hd', hdD'⟩ := dpa_get' hA2 hy
        rw [hd] at hd'
        cases hd'
        have x4 := (x2.trans e1).le0
        refine ⟨T0, _, rfl, SqT.of hT0, rfl, _, _, rfl, _, _, rfl, rfl, rfl, _, rfl, _, rfl, x, y, d, rfl, dp_le x4 _ _ hdD, dp_le x4 _ _ hdD', hds d (List.mem_of_getElem? hd), fun H3 x3 => hN _ H3 x3 rfl trivial⟩
      · have ez : zs = (List.replicate xs.length true).map V.bl := by
          apply List.ext_getElem?
          intro j
          rw [List.map_replicate]
          by_cases c : j < zs.length
          · rw [List.getElem?_eq_getElem c, rz j _ (List.getElem?_eq_getElem c), List.getElem?_replicate, if_pos (by omega)]
          · rw [List.getElem?_eq_none (by omega), List.getElem?_eq_none (by rw [List.length_replicate]; omega)]
        refine ⟨D, List.replicate xs.length true, rfl, SqL.of (by rw [hz, ez]), ?_⟩
        have ea : (List.replicate xs.length true).all id = true := by
          rw [List.all_eq_true]
          intro z hz
          rw [List.eq_of_mem_replicate hz]
          rfl
        rw [ea]
        exact q H' ((x1.trans x2).trans e1)
    walk_at "un"
    cases d with
    | dict kvs => cases hU
    | list ds =>
      refine iteT ?_
      refine ⟨_, rfl, z_isi hU1 h1 ⟨_, rfl, z_isi hV1 h1 ⟨rfl, _, rfl, ?_⟩⟩⟩
      refine iteNS rfl ?_
      refine ⟨_, rfl, z_isi hU1 h2 ⟨_, rfl, z_isi hV1 h2 ⟨rfl, _, rfl, ?_⟩⟩⟩
      refine iteNS rfl ?_
      have dp := deep false ds rfl
      obtain ⟨a, xs, rfl, hS, hA⟩ := dp_sq (t := false) hU1
      obtain ⟨b, ys, rfl, hS2, hA2⟩ := dp_sq (t := false) hV1
      have ll := dpa_len hA
      have ll2 := dpa_len hA2
      refine ⟨_, rfl, _, _, rfl, hS.sq, _, rfl, _, _, rfl, hS2.sq, rfl, _, rfl, ?_⟩
      rw [ll, ll2, decide_eq_true rfl]
      exact iteT dp
    | tuple ds =>
      refine iteT ?_
      refine ⟨_, rfl, z_isi hU1 h1 ⟨_, rfl, z_isi hV1 h1 ⟨rfl, _, rfl, ?_⟩⟩⟩
      refine iteNS rfl ?_
      refine ⟨_, rfl, z_isi hU1 h2 ⟨_, rfl, z_isi hV1 h2 ⟨rfl, _, rfl, ?_⟩⟩⟩
      refine iteNS rfl ?_
      have dp := deep true ds rfl
      obtain ⟨a, xs, rfl, hS, hA⟩ := dp_sq (t := true) hU1
      obtain ⟨b, ys, rfl, hS2, hA2⟩ := dp_sq (t := true) hV1
      have ll := dpa_len hA
      have ll2 := dpa_len hA2
      refine ⟨_, rfl, _, _, rfl, hS.sq, _, rfl, _, _, rfl, hS2.sq, rfl, _, rfl, ?_⟩
      rw [ll, ll2, decide_eq_true rfl]
      exact iteT dp
    | none =>
      have hU2 := hU1
      have hV2 := hV1
      cases hU1
      cases hV1
      refine iteF ⟨_, rfl, rfl, _, rfl, iteT ⟨_, rfl, _, rfl, rfl, _, rfl, iteT ?_⟩⟩
      exact ⟨_, rfl, z_isi hU2 h5 ⟨_, rfl, z_isi hV2 h5 ⟨rfl, by rw [decide_eq_true rfl]; exact qt⟩⟩⟩
    | str b =>
      have hU2 := hU1
      have hV2 := hV1
      cases hU1
      cases hV1
      refine iteF ⟨_, rfl, rfl, _, rfl, iteF ⟨_, rfl, z_isi hV2 h5 ⟨_, rfl, iteT ⟨_, rfl, _, rfl, rfl, _, rfl, ?_⟩⟩⟩⟩
      rw [decide_eq_true rfl]
      exact iteT ⟨_, rfl, z_isi hU2 h5 ⟨_, rfl, z_isi hV2 h5 ⟨rfl, by rw [decide_eq_true rfl]; exact qt⟩⟩⟩
    | bool b =>
      have hU2 := hU1
      have hV2 := hV1
      cases hU1
      cases hV1
      refine iteF ⟨_, rfl, rfl, _, rfl, iteF ⟨_, rfl, z_isi hV2 h5 ⟨_, rfl, iteF ⟨_, rfl, z_isi hU2 h4 ⟨_, rfl, iteT ⟨_, rfl, z_isi hU2 h3 ⟨_, rfl, z_isi hV2 h3 ⟨rfl, _, rfl, ?_⟩⟩⟩⟩⟩⟩⟩⟩
      rw [decide_eq_true rfl]
      exact iteT ⟨_, rfl, _, rfl, rfl, by rw [decide_eq_true rfl]; exact qt⟩
    | int b =>
      have hU2 := hU1
      have hV2 := hV1
      cases hU1
      cases hV1
      refine iteF ⟨_, rfl, rfl, _, rfl, iteF ⟨_, rfl, z_isi hV2 h5 ⟨_, rfl, iteF ⟨_, rfl, z_isi hU2 h4 ⟨_, rfl, iteT ⟨_, rfl, z_isi hU2 h3 ⟨_, rfl, z_isi hV2 h3 ⟨rfl, _, rfl, ?_⟩⟩⟩⟩⟩⟩⟩⟩
      rw [decide_eq_true rfl]
      exact iteT ⟨_, rfl, _, rfl, rfl, by rw [decide_eq_true rfl]; exact qt⟩
theorem ok_same (T : Txt K mg) : ∀ N, FnOk P w K mg base CX0 (N + 1) T.a__law_same T.d__law_same P__law_same (spSame K N)
  | 0 => ok_same_one T 0 (fun _ _ _ _ => False) ⟨fun _ _ _ _ h => h.elim, fun _ _ _ _ _ _ _ _ _ _ _ _ _ h => h.elim⟩ (.inl rfl)
  | N + 1 => ok_same_one T (N + 1) (spSame K N) (ok_same T N) (.inr ⟨N, rfl, rfl⟩)
end
end Z10
set_option Elab.async false
set_option linter.all false
set_option maxRecDepth 100000
set_option maxHeartbeats 2000000
namespace Hz
open PySem PySem.Spec PyProof.Rows L2
/-- a year under way: a list of lists of two -/
structure YearAt (b y : Addr) (as : List Addr) (c : List (Int × Bool)) (H : Hp) : Prop where
  ly : H y = some (.lst (as.map V.ref))
  len : as.length = c.length
  at_ : ∀ (j : Nat) a d, as[j]? = some a → c[j]? = some d → H a = some (.lst [.int d.1, .bl d.2])
  nd : as.Nodup
  ny : y ∉ as
  nb : b ∉ as
  by_ : b ≠ y
section
variable {b y : Addr} {as : List Addr} {c : List (Int × Bool)} {H H' : Hp}
theorem YearAt.ex (h : YearAt b y as c H) (e : Ex [b] H H') : YearAt b y as c H' :=
  ⟨e.1 _ _ (fun z => h.by_ (List.mem_singleton.mp z).symm) h.ly, h.len, fun j a d h1 h2 => e.1 _ _ (fun z => h.nb ((List.mem_singleton.mp z) ▸ List.mem_of_getElem? h1)) (h.at_ j a d h1 h2), h.nd, h.ny, h.nb, h.by_⟩
theorem YearAt.push (h : YearAt b y as c H) {p : Addr} {d : Int} {f : Bool} (hp : H p = some (.lst [.int d, .bl f])) (n1 : p ∉ as) (n2 : p ≠ y) (n3 : p ≠ b) :
    YearAt b y (as ++ [p]) (c ++ [(d, f)]) (upd H y (.lst (as.map V.ref ++ [.ref p]))) := by
  refine ⟨by rw [upd_same, List.map_append]; rfl, by rw [List.length_append, List.length_append, h.len]; rfl, fun j a e h1 h2 => ?_, ?_, ?_, ?_, h.by_⟩
  · have ha : a ≠ y := by
      have : a ∈ as ++ [p] := List.mem_of_getElem? h1
      rcases List.mem_append.mp this with z | z
      · exact fun q => h.ny (q ▸ z)
      · rw [List.mem_singleton.mp z]; exact n2
    rw [upd_ne ha]
    by_cases l : j < as.length
    · rw [List.getElem?_append_left l] at h1
      rw [List.getElem?_append_left (h.len ▸ l)] at h2
      exact h.at_ j a e h1 h2
    · have hj : j = as.length := by
        obtain ⟨q, _⟩ := List.getElem?_eq_some_iff.mp h1
        rw [List.length_append, List.length_singleton] at q
        omega
      subst hj
      rw [List.getElem?_append_right (Nat.le_refl _), Nat.sub_self] at h1
      rw [h.len, List.getElem?_append_right (Nat.le_refl _), Nat.sub_self] at h2
      cases h1
      cases h2
      exact hp
  · rw [List.nodup_append]
    refine ⟨h.nd, by simp, fun a ha q hq => ?_⟩
    rw [List.mem_singleton.mp hq]
    exact fun z => n1 (z ▸ ha)
  · intro z
    rcases List.mem_append.mp z with z | z
    · exact h.ny z
    · exact n2 (List.mem_singleton.mp z).symm
  · intro z
    rcases List.mem_append.mp z with z | z
    · exact h.nb z
    · exact n3 (List.mem_singleton.mp z).symm
theorem YearAt.set (h : YearAt b y as c H) {w : Nat} {a : Addr} {z : Int} {f : Bool} (ha : as[w]? = some a) : YearAt b y as (c.set w (z, f)) (upd H a (.lst [.int z, .bl f])) := by
  have ma := List.mem_of_getElem? ha
  refine ⟨by rw [upd_ne (fun q => h.ny (by rw [q]; exact ma))]; exact h.ly, by rw [List.length_set]; exact h.len, fun j e d h1 h2 => ?_, h.nd, h.ny, h.nb, h.by_⟩
  by_cases q : j = w
  · subst q
    rw [ha] at h1
    cases h1
    rw [upd_same]
    obtain ⟨l, _⟩ := List.getElem?_eq_some_iff.mp h2
    rw [List.length_set] at l
    rw [List.getElem?_set_self l] at h2
    cases h2
    rfl
  · rw [List.getElem?_set_ne (fun z => q z.symm)] at h2
    have ne : e ≠ a := fun z => q (nd_ix h.nd h1 (z ▸ ha))
    rw [upd_ne ne]
    exact h.at_ j e d h1 h2
theorem YearAt.mem (h : YearAt b y as c H) {j : Nat} (hj : j < c.length) : ∃ a, as[j]? = some a ∧ H a = some (.lst [.int (c[j]'hj).1, .bl (c[j]'hj).2]) := by
  have hj' : j < as.length := by rw [h.len]; exact hj
  exact ⟨as[j], List.getElem?_eq_getElem hj', h.at_ j _ _ (List.getElem?_eq_getElem hj') (List.getElem?_eq_getElem hj)⟩
theorem YearAt.fresh (h : YearAt b y as c H) {p : Addr} (hp : H p = none) : p ∉ as ∧ p ≠ y := by
  refine ⟨fun z => ?_, fun z => ?_⟩
  · obtain ⟨j, hj, e⟩ := List.getElem_of_mem z
    have := h.at_ j p (c[j]'(h.len ▸ hj)) (by rw [List.getElem?_eq_getElem hj, e]) (List.getElem?_eq_getElem _)
    rw [hp] at this; cases this
  · have := h.ly
    rw [← z, hp] at this; cases this
end
theorem Bx.ne {b p : Addr} {n : Nat} {H : Hp} (h : Bx b n H) (hp : H p = none) : p ≠ b := fun z => by
  obtain ⟨_, _, _, hb, _⟩ := h
  rw [← z, hp] at hb; cases hb
theorem sq_new {K : PySem.W.Frag} {b p : Addr} {n : Nat} {H : Hp} {xs : List V} (h : Bx b n H) (hp : H p = none) : Sq K (wo [b] (upd H p (.lst xs))) p xs :=
  .inl (SqL.of (wo_of (by simpa using h.ne hp) upd_same))
theorem YearAt.other {b y : Addr} {as : List Addr} {c : List (Int × Bool)} {H : Hp} (h : YearAt b y as c H) {p : Addr} {o : HO} (n1 : p ∉ as) (n2 : p ≠ y) : YearAt b y as c (upd H p o) :=
  ⟨by rw [upd_ne n2.symm]; exact h.ly, h.len, fun j a d h1 h2 => by
    have na : a ≠ p := fun z => n1 (by rw [← z]; exact List.mem_of_getElem? h1)
    rw [upd_ne na]
    exact h.at_ j a d h1 h2, h.nd, h.ny, h.nb, h.by_⟩
theorem sum_pos : ∀ {l : List Int} {z : Int}, (∀ x, x ∈ l → 0 ≤ x) → z ∈ l → z ≤ l.sum
  | [], _, _, h => by cases h
  | a :: r, z, h0, h => by
    rw [List.sum_cons]
    have hr : 0 ≤ r.sum := by
      clear h
      induction r with
      | nil => exact Int.le_refl _
      | cons b q ih =>
        rw [List.sum_cons]
        have h1 := h0 b (by simp)
        have h2 := ih fun x hx => by
          rcases List.mem_cons.mp hx with e | e
          · exact h0 x (by rw [e]; simp)
          · exact h0 x (by simp [e])
        omega
    rcases List.mem_cons.mp h with e | e
    · subst e; omega
    · have h1 := h0 a (List.mem_cons_self ..)
      have h2 := sum_pos (l := r) (z := z) (fun x hx => h0 x (List.mem_cons_of_mem _ hx)) e
      omega
/-- a year with a drop, and an open day -/
structure YearOk (c : List (Int × Bool)) (n : Nat) : Prop where
  len : c.length = n
  bd : ∀ d ∈ c, 0 ≤ d.1 ∧ d.1 ≤ 10 ^ 11
  op : ∃ d, d ∈ c ∧ d.2 = true
  dr : 0 < (c.map (·.1)).sum
theorem year_fix {c : List (Int × Bool)} {wn ln : Nat} {M d' : Int} {f f' : Bool} (hw : wn < c.length) (hl : ln < c.length) (hc : ∀ d ∈ c, 0 ≤ d.1 ∧ d.1 ≤ 10 ^ 11) (hM : 1 ≤ M) (hM2 : M ≤ 10 ^ 11)
    (hd : (c.set wn (M, f))[ln]? = some (d', f')) : YearOk ((c.set wn (M, f)).set ln (d', true)) c.length := by
  have h1 : ∀ d ∈ c.set wn (M, f), 0 ≤ d.1 ∧ d.1 ≤ 10 ^ 11 := fun d hd => by
    rcases List.mem_or_eq_of_mem_set hd with h | h
    · exact hc d h
    · rw [h]; exact ⟨by show 0 ≤ M; omega, hM2⟩
  have h2 := h1 _ (List.mem_of_getElem? hd)
  have hl' : ln < (c.set wn (M, f)).length := by rw [List.length_set]; exact hl
  have h3 : ∀ d ∈ (c.set wn (M, f)).set ln (d', true), 0 ≤ d.1 ∧ d.1 ≤ 10 ^ 11 := fun d hd => by
    rcases List.mem_or_eq_of_mem_set hd with h | h
    · exact h1 d h
    · rw [h]; exact h2
  refine ⟨by rw [List.length_set, List.length_set], h3, ⟨(d', true), ?_, rfl⟩, ?_⟩
  · exact List.mem_of_getElem? (List.getElem?_set_self hl')
  · have hm : ∃ e, e ∈ (c.set wn (M, f)).set ln (d', true) ∧ 1 ≤ e.1 := by
      by_cases q : ln = wn
      · subst q
        rw [List.getElem?_set_self hw] at hd
        cases hd
        exact ⟨_, List.mem_of_getElem? (List.getElem?_set_self hl'), hM⟩
      · refine ⟨(M, f), List.mem_of_getElem? (i := wn) ?_, hM⟩
        rw [List.getElem?_set_ne q, List.getElem?_set_self hw]
    obtain ⟨e, he, e1⟩ := hm
    have := sum_pos (l := ((c.set wn (M, f)).set ln (d', true)).map (·.1)) (z := e.1) (fun x hx => by
      obtain ⟨d, hd, rfl⟩ := List.mem_map.mp hx
      exact (h3 d hd).1) (List.mem_map.mpr ⟨e, he, rfl⟩)
    omega
theorem Bx.there {b : Addr} {n : Nat} {H : Hp} (h : Bx b n H) : H b ≠ none := fun z => by
  obtain ⟨_, _, _, hb, _⟩ := h
  rw [z] at hb; cases hb
end Hz
set_option linter.all false
namespace Hz
/-! ### sums of floors -/
def sm (F : Nat → Int) : Nat → Int
  | 0 => 0
  | n + 1 => sm F n + F n
theorem sm_congr {F G : Nat → Int} : ∀ {n : Nat}, (∀ k, k < n → F k = G k) → sm F n = sm G n
  | 0, _ => rfl
  | n + 1, h => by
    show sm F n + F n = sm G n + G n
    rw [sm_congr fun k hk => h k (by omega), h n (by omega)]
theorem sm_add (F G : Nat → Int) : ∀ n, sm (fun k => F k + G k) n = sm F n + sm G n
  | 0 => rfl
  | n + 1 => by
    show sm (fun k => F k + G k) n + (F n + G n) = (sm F n + F n) + (sm G n + G n)
    rw [sm_add F G n]; omega
theorem sm_sub (F G : Nat → Int) : ∀ n, sm (fun k => F k - G k) n = sm F n - sm G n
  | 0 => rfl
  | n + 1 => by
    show sm (fun k => F k - G k) n + (F n - G n) = (sm F n + F n) - (sm G n + G n)
    rw [sm_sub F G n]; omega
theorem sm_const (c : Int) : ∀ n : Nat, sm (fun _ => c) n = n * c
  | 0 => by show (0 : Int) = _; rw [Int.ofNat_zero, Int.zero_mul]
  | n + 1 => by
    show sm (fun _ => c) n + c = _
    rw [sm_const c n, Int.natCast_add, Int.add_mul]
    omega
theorem sm_zero {F : Nat → Int} : ∀ {n : Nat}, (∀ k, k < n → F k = 0) → sm F n = 0
  | 0, _ => rfl
  | n + 1, h => by
    show sm F n + F n = 0
    rw [sm_zero fun k hk => h k (by omega), h n (by omega)]; rfl
theorem sm_nn {F : Nat → Int} : ∀ {n : Nat}, (∀ k, k < n → 0 ≤ F k) → 0 ≤ sm F n
  | 0, _ => Int.le_refl _
  | n + 1, h => by
    have a := sm_nn (F := F) (n := n) fun k hk => h k (by omega)
    have b := h n (by omega)
    show 0 ≤ sm F n + F n
    omega
/-- a sum of nothing below nought that is nought -/
theorem sm_all {F : Nat → Int} : ∀ {n : Nat}, (∀ k, k < n → 0 ≤ F k) → sm F n = 0 → ∀ k, k < n → F k = 0
  | 0, _, _, k, hk => absurd hk (Nat.not_lt_zero _)
  | n + 1, h, e, k, hk => by
    have a := sm_nn (F := F) (n := n) fun k hk => h k (by omega)
    have b := h n (by omega)
    have e' : sm F n + F n = 0 := e
    by_cases c : k < n
    · exact sm_all (fun k hk => h k (by omega)) (by omega) k c
    · rw [show k = n by omega]; omega
theorem sm_split (F : Nat → Int) (n : Nat) : ∀ m, sm F (n + m) = sm F n + sm (fun k => F (n + k)) m
  | 0 => by show sm F n = sm F n + 0; omega
  | m + 1 => by
    show sm F (n + m) + F (n + m) = sm F n + (sm (fun k => F (n + k)) m + F (n + m))
    rw [sm_split F n m]; omega
theorem sm_rev (F : Nat → Int) : ∀ n : Nat, sm (fun k => F (n - 1 - k)) n = sm F n
  | 0 => rfl
  | n + 1 => by
    have e := sm_split (fun k => F (n + 1 - 1 - k)) 1 n
    rw [Nat.add_comm 1 n] at e
    rw [e]
    have e1 : sm (fun k => F (n + 1 - 1 - k)) 1 = F n := by
      show 0 + F (n + 1 - 1 - 0) = F n
      rw [Int.zero_add]; rfl
    rw [e1]
    have e2 : sm (fun k => F (n + 1 - 1 - (1 + k))) n = sm (fun k => F (n - 1 - k)) n := sm_congr fun k hk => by
      congr 1; omega
    rw [e2, sm_rev F n]
    show F n + sm F n = sm F n + F n
    omega
theorem sm_ind {c : Int} : ∀ {m : Nat}, 0 ≤ c → c ≤ m → sm (fun j => if (j : Int) + 1 ≤ c then 1 else 0) m = c
  | 0, h0, h1 => by
    show (0 : Int) = c
    have : ((0 : Nat) : Int) = 0 := rfl
    omega
  | m + 1, h0, h1 => by
    show sm (fun j => if (j : Int) + 1 ≤ c then 1 else 0) m + (if (m : Int) + 1 ≤ c then 1 else 0) = c
    by_cases e : c ≤ m
    · rw [sm_ind h0 e, if_neg (by omega)]; omega
    · have ec : c = m + 1 := by omega
      have : sm (fun j => if (j : Int) + 1 ≤ c then (1 : Int) else 0) m = sm (fun _ => 1) m := sm_congr fun k hk => if_pos (by omega)
      rw [this, sm_const, if_pos (by omega)]
      omega
def fsum (n : Nat) (m a b : Int) : Int := sm (fun k => (a * k + b) / m) n
theorem gauss : ∀ n : Nat, sm (fun k => (k : Int)) n = ((n : Int) - 1) * n / 2
  | 0 => by decide
  | n + 1 => by
    show sm (fun k => (k : Int)) n + n = _
    rw [gauss n]
    have : (((n + 1 : Nat) : Int) - 1) * ((n + 1 : Nat) : Int) = ((n : Int) - 1) * n + n * 2 := by
      rw [Int.natCast_add, show (((n : Int) + (1 : Nat)) - 1) = (n : Int) by omega, Int.sub_mul, Int.mul_add]
      omega
    rw [this, Int.add_mul_ediv_right _ _ (by decide)]
theorem sm_mul (c : Int) (F : Nat → Int) : ∀ n, sm (fun k => F k * c) n = sm F n * c
  | 0 => by show (0 : Int) = 0 * c; rw [Int.zero_mul]
  | n + 1 => by
    show sm (fun k => F k * c) n + F n * c = (sm F n + F n) * c
    rw [sm_mul c F n, Int.add_mul]
theorem fsum_less {m : Int} (hm : 0 < m) (n : Nat) (a b : Int) : fsum n m a b = ((n : Int) - 1) * n / 2 * (a / m) + n * (b / m) + fsum n m (a % m) (b % m) := by
  have e : ∀ k : Nat, (a * k + b) / m = ((k : Int) * (a / m) + b / m) + ((a % m) * k + b % m) / m := fun k => by
    have h1 := Int.mul_ediv_add_emod a m
    have h2 := Int.mul_ediv_add_emod b m
    have : a * k + b = ((a % m) * k + b % m) + (k * (a / m) + b / m) * m := by
      have e1 : a * k = a % m * k + k * (a / m) * m := by
        rw [Int.mul_assoc, Int.mul_comm (a / m) m, Int.mul_comm (k : Int), ← Int.add_mul]
        congr 1
        omega
      have e2 : (k * (a / m) + b / m) * m = k * (a / m) * m + m * (b / m) := by rw [Int.add_mul, Int.mul_comm (b / m)]
      rw [e1, e2]
      omega
    rw [this, Int.add_mul_ediv_right _ _ (by omega)]
    omega
  unfold fsum
  rw [sm_congr (G := fun k => ((k : Int) * (a / m) + b / m) + ((a % m) * k + b % m) / m) fun k _ => e k, sm_add, sm_add, sm_const, sm_mul, gauss]
theorem fsum_none {n : Nat} {m a b : Int} (a0 : 0 ≤ a) (b0 : 0 ≤ b) (h : a * n + b < m) : fsum n m a b = 0 := sm_zero fun k hk => by
  have h1 : a * k ≤ a * n := Int.mul_le_mul_of_nonneg_left (by omega) a0
  have h2 : 0 ≤ a * (k : Int) := Int.mul_nonneg a0 (by omega)
  exact Int.ediv_eq_zero_of_lt (by omega) (by omega)
theorem sm_swap (a b m : Int) (M : Nat) (a0 : 0 < a) (b0 : 0 ≤ b) (bm : b < m) : ∀ n : Nat, (∀ k : Nat, k < n → (a * k + b) / m ≤ M) → sm (fun k => (a * k + b) / m) n = sm (fun j => max 0 ((a * n + b - m * (j + 1)) / a)) M
  | 0, _ => by
    refine (sm_zero fun j hj => ?_).symm
    have h0 : 0 ≤ m * (j : Int) := Int.mul_nonneg (by omega) (by omega)
    have e : a * ((0 : Nat) : Int) = 0 := Int.mul_zero a
    have e2 : m * ((j : Int) + 1) = m * j + m := by rw [Int.mul_add, Int.mul_one]
    have : (a * ((0 : Nat) : Int) + b - m * ((j : Int) + 1)) / a ≤ 0 := by
      have := Int.ediv_le_ediv a0 (show a * ((0 : Nat) : Int) + b - m * ((j : Int) + 1) ≤ 0 by omega)
      rwa [Int.zero_ediv] at this
    omega
  | n + 1, h => by
    have hf := h n (by omega)
    have an : 0 ≤ a * (n : Int) := Int.mul_nonneg (by omega) (by omega)
    have f0 : 0 ≤ (a * n + b) / m := Int.ediv_nonneg (by omega) (by omega)
    show sm (fun k => (a * k + b) / m) n + (a * n + b) / m = _
    rw [sm_swap a b m M a0 b0 bm n fun k hk => h k (by omega)]
    have e := sm_ind f0 hf
    rw [← e]
    rw [e, ← sm_add_ind f0 hf]
    refine sm_congr fun j hj => ?_
    have e1 : a * ((n + 1 : Nat) : Int) + b - m * ((j : Int) + 1) = a * n + b - m * ((j : Int) + 1) + 1 * a := by
      rw [Int.natCast_add, Int.mul_add]
      have : a * ((1 : Nat) : Int) = 1 * a := by rw [Int.one_mul]; exact Int.mul_one a
      omega
    show max 0 ((a * n + b - m * (↑j + 1)) / a) + _ = max 0 _
    rw [e1, Int.add_mul_ediv_right _ _ (by omega)]
    by_cases c : (j : Int) + 1 ≤ (a * n + b) / m
    · have c' : ((j : Int) + 1) * m ≤ a * n + b := (Int.le_ediv_iff_mul_le (by omega)).mp c
      rw [Int.mul_comm] at c'
      have : 0 ≤ (a * n + b - m * ((j : Int) + 1)) / a := Int.ediv_nonneg (by omega) (by omega)
      rw [if_pos c]; omega
    · have c' : ¬ ((j : Int) + 1) * m ≤ a * n + b := fun z => c ((Int.le_ediv_iff_mul_le (by omega)).mpr z)
      rw [Int.mul_comm] at c'
      have : (a * n + b - m * ((j : Int) + 1)) / a < 0 := Int.ediv_neg_of_neg_of_pos (by omega) a0
      rw [if_neg c]; omega
where
  sm_add_ind {c : Int} {F : Nat → Int} {m : Nat} (h0 : 0 ≤ c) (h1 : c ≤ m) : sm (fun j => F j + (if (j : Int) + 1 ≤ c then 1 else 0)) m = sm F m + c := by
    rw [sm_add, sm_ind h0 h1]
theorem fsum_swap {n : Nat} {m a b : Int} (a0 : 0 ≤ a) (am : a < m) (b0 : 0 ≤ b) (bm : b < m) (h : m ≤ a * n + b) : fsum n m a b = fsum ((a * n + b) / m).toNat a m ((a * n + b) % m) := by
  have ha : 0 < a := by
    rcases Int.lt_or_eq_of_le a0 with c | c
    · exact c
    · rw [← c, Int.zero_mul] at h; omega
  have an : 0 ≤ a * (n : Int) := Int.mul_nonneg (by omega) (by omega)
  have y0 : 0 ≤ (a * n + b) / m := Int.ediv_nonneg (by omega) (by omega)
  have em := Int.mul_ediv_add_emod (a * n + b) m
  have em0 := Int.emod_nonneg (a * n + b) (show m ≠ 0 by omega)
  generalize hy : a * (n : Int) + b = y at *
  obtain ⟨N, hN⟩ := Int.eq_ofNat_of_zero_le y0
  rw [hN, Int.toNat_natCast]
  unfold fsum
  rw [sm_swap a b m N ha b0 bm n fun k hk => ?_]
  · rw [hy, ← sm_rev]
    refine sm_congr fun i hi => ?_
    have e : y - m * (((N - 1 - i : Nat) : Int) + 1) = m * i + y % m := by
      have : (((N - 1 - i : Nat) : Int) + 1) = N - i := by omega
      rw [this, Int.mul_sub]
      rw [hN] at em
      omega
    show max 0 ((y - m * (((N - 1 - i : Nat) : Int) + 1)) / a) = _
    rw [e]
    have : 0 ≤ (m * (i : Int) + y % m) / a := Int.ediv_nonneg (by have : 0 ≤ m * (i : Int) := Int.mul_nonneg (by omega) (by omega); omega) (by omega)
    omega
  · have h1 : a * (k : Int) ≤ a * n := Int.mul_le_mul_of_nonneg_left (by omega) a0
    have := Int.ediv_le_ediv (show 0 < m by omega) (show a * (k : Int) + b ≤ y by omega)
    omega
/-- how many steps lead into a window -/
theorem hit_one {x R l h : Int} (R0 : 0 < R) (l0 : 0 ≤ l) (lh : l ≤ h) (hR : h < R) : (x + R - l) / R - (x + R - h - 1) / R = if l ≤ x % R ∧ x % R ≤ h then 1 else 0 := by
  have e := Int.mul_ediv_add_emod x R
  have e0 := Int.emod_nonneg x (show R ≠ 0 by omega)
  have e1 := Int.emod_lt_of_pos x R0
  have div : ∀ t : Int, 0 ≤ t → t < R → (x + R - t) / R = x / R + if t ≤ x % R then 1 else 0 := fun t t0 t1 => by
    have : x + R - t = (x % R + R - t) + x / R * R := by rw [Int.mul_comm]; omega
    rw [this, Int.add_mul_ediv_right _ _ (by omega)]
    by_cases c : t ≤ x % R
    · rw [if_pos c]
      have : (x % R + R - t) / R = 1 := by
        have : x % R + R - t = (x % R - t) + 1 * R := by omega
        rw [this, Int.add_mul_ediv_right _ _ (by omega), Int.ediv_eq_zero_of_lt (by omega) (by omega)]; rfl
      omega
    · rw [if_neg c, Int.ediv_eq_zero_of_lt (by omega) (by omega)]; omega
  rw [div l l0 (by omega)]
  by_cases c : h + 1 < R
  · rw [show x + R - h - 1 = x + R - (h + 1) by omega, div (h + 1) (by omega) c]
    split <;> split <;> split <;> omega
  · have : x + R - h - 1 = x % R + x / R * R := by rw [Int.mul_comm]; omega
    rw [this, Int.add_mul_ediv_right _ _ (by omega), Int.ediv_eq_zero_of_lt e0 e1]
    split <;> split <;> omega
end Hz
set_option Elab.async false
set_option linter.all false
set_option maxRecDepth 100000
set_option maxHeartbeats 4000000
namespace Z10
open PySem PySem.Spec PyProof.Rows L2 Hz
section
variable {P : Program} {w : World} {K : PySem.W.Frag} {mg : Str → Option Value} {base : Heap}
local macro_rules | `(tactic| walk_at "un") => `(tactic| dsimp only [tSeq, tIfS, tRet, tAsg, tDrop, tOr, tAnd, tNot, tAndV, tOrV, tNotV, tTest, tB, tOp, tUn, tCB, tCons, tNil, tC, tNext, tIf, tChain, gName, tPar, tPar3, tTup, tLst])
/-- from any begin on -/
def spFirst : Sp := fun vs H Q _ => ∃ b st A l h : Int, vs = [.int b, .int st, .int A, .int l, .int h] ∧ 1 ≤ A ∧ A ≤ 10 ^ 50 ∧ 0 ≤ l ∧ l ≤ h ∧ h < A ∧ ∀ r H', Fsb b st A l h r → Ex [] H H' → Q (optV r) H'
theorem at_one {s A w h : Int} {n j : Nat} : Win.At [w] ⟨s, A, [h]⟩ n j ↔ j = 0 ∧ Win.First s A h w n := by
  refine ⟨fun ⟨h', w', e1, e2, F⟩ => ?_, fun ⟨e, F⟩ => ?_⟩
  · have e1 : [h][j]? = some h' := e1
    rcases j with _ | j
    · cases e1
      cases e2
      exact ⟨rfl, F⟩
    · exact absurd e1 (by simp)
  · subst e
    exact ⟨h, w, rfl, rfl, F⟩
theorem first_fst {s A w h l : Int} {n : Nat} (e : h - w = l) (F : Win.First s A h w n) : Fst s A l h (some n) := by
  subst e
  exact ⟨F.1, fun k hk z => F.2 k hk z⟩
theorem none_fst {s A w h l : Int} (e : h - w = l) (z : ∀ n j, ¬ Win.At [w] ⟨s, A, [h]⟩ n j) : Fst s A l h none := fun n i => by
  subst e
  obtain ⟨m, _, F⟩ := Win.first_of (s := s) (M := A) (h := h) (w := w) (n := n) i
  exact z m 0 (at_one.mpr ⟨rfl, F⟩)
theorem ok_first_in (T : Txt K mg) : FnOk P w K mg base CX0 3 T.a_first_in T.d_first_in P_first_in spFirst := by
  have nd := sc_first_in.nd
  have G_least_steps := ok_least_steps (P := P) (w := w) (base := base) T
  refine T.F_first_in.ok sc_first_in (fun vs H Q E h => ?_) (fun cdv A outer s H vs Q E hr h => ?_)
  · obtain ⟨b, st, A, l, h, rfl, _⟩ := h
    rfl
  · obtain ⟨b, st, N, l, h, rfl, h1, h2, h3, h4, h5, q⟩ := h
    have hr_least_steps := hr
    refine ⟨_, (pss_cons (ps_set (i := 5) nd rfl (Or.inl rfl) (pe_op op_mod (pe_op op_sub (pv 3) (pv 0)) (pv 2)))
      (pss_cons (ps_set (i := 6) nd rfl (Or.inl rfl) (pe_op op_sub (pe_op op_add (pv 5) (pv 4)) (pv 3)))
      (pss_cons (ps_if (PW.pt (pw_or (pt_cmpR op_eq (pv 5) pe_int (nomark _)) (pw_or1 (pt_cmpR op_ge (pv 6) (pv 2) (nomark _))))) (pss_one (ps_ret pe_int)) pss_nil)
      (pss_cons (ps_set (i := 7) nd rfl (Or.inl rfl) (pe_call G_least_steps hr_least_steps (by rfl) T.m_least_steps T.k_least_steps T.b_least_steps .nil pass0 (pa_cons (pe_lst (pa_cons (pv 6) pa_nil)) (pa_cons (pe_lst (pa_cons (pe_op op_sub (pv 4) (pv 3)) pa_nil)) (pa_cons (pe_op op_mod (pv 1) (pv 2)) (pa_cons (pv 2) pa_nil))))))
      (pss_one (ps_ret (pe_ifExp (pt_cmpR op_isN (pv 7) pe_non (nomark _)) pe_non (pe_ix (ixK K) (pv 7) pe_int (fun _ _ => rfl))))))))), ?_⟩
    walk_at "un"
    have a0 := Int.emod_nonneg (l - b) (show N ≠ 0 by omega)
    have a1 := Int.emod_lt_of_pos (l - b) (show 0 < N by omega)
    have now : (l - b) % N = 0 ∨ N ≤ (l - b) % N + h - l → Q (.int 0) H := fun c => q (some 0) H (fsb_now (by omega) h3 h4 h5 c) (Ex.refl _ _)
    refine ⟨_, rfl, _, rfl, _, _, rfl, rfl, _, rfl, _, _, rfl, rfl, (by show (0 : Int) < N; omega), ?_⟩
    refine ⟨_, rfl, _, rfl, _, _, rfl, rfl, _, rfl, _, _, rfl, rfl, ?_⟩
    refine ⟨_, rfl, rfl, _, rfl, ?_⟩
    by_cases c : (l - b) % N = 0
    · rw [decide_eq_true (show V.int ((l - b) % N) = V.int 0 by rw [c])]
      exact iteT (iteT (now (.inl c)))
    · rw [decide_eq_false (show ¬ V.int ((l - b) % N) = V.int 0 by simpa using c)]
      refine iteF ⟨_, rfl, _, rfl, _, _, rfl, rfl, _, rfl, ite2 (fun c2 => now (.inr (of_decide_eq_true c2))) (fun c2 => ?_)⟩
      have c2 : (l - b) % N + h - l < N := Int.not_le.mp (of_decide_eq_false (Bool.eq_false_iff.mpr c2))
      have st0 := Int.emod_nonneg st (show N ≠ 0 by omega)
      have st1 := Int.emod_lt_of_pos st (show 0 < N by omega)
      refine ⟨_, rfl, show 1 ≤ sizeLine by decide, fun p hp => ?_⟩
      refine ⟨_, rfl, _, rfl, _, _, rfl, rfl, show 1 ≤ sizeLine by decide, fun p2 hp2 => ?_⟩
      refine ⟨_, rfl, _, rfl, _, _, rfl, rfl, (by show (0 : Int) < N; omega), _, rfl, ?_⟩
      have x1 := Ex.new (B := []) (o := .lst [.int ((l - b) % N + h - l)]) hp
      have x2 := Ex.new (B := []) (o := .lst [.int (h - l)]) hp2
      refine ⟨.ref p, .ref p2, [(l - b) % N + h - l], [h - l], st % N, N, rfl, dp_il (x2.get (by simp) upd_same), dp_il upd_same, ⟨st0, st1, rfl, fun {j h' w'} e1 e2 => ?_⟩, h2, by show 1 ≤ 10000; decide, fun H' no x => ?_, fun n j v H' la hd x => ?_⟩
      · have e1 : [(l - b) % N + h - l][j]? = some h' := e1
        rcases j with _ | j
        · cases e1
          cases e2
          show 0 ≤ h - l ∧ h - l < (l - b) % N + h - l ∧ (l - b) % N + h - l < N
          omega
        · exact absurd e1 (by simp)
      · refine ⟨_, rfl, rfl, _, rfl, iteT ?_⟩
        exact q none H' (fsb_of (by omega) h3 h4 h5 c c2 (none_fst (by omega) no)) ((x1.trans x2).trans x)
      · obtain ⟨rfl, F⟩ := at_one.mp la.1
        obtain ⟨a, xs, rfl, _, _⟩ := dp_tup (show Dp K H' v (.tuple [.int n, .int (0 : Nat)]) from hd)
        refine ⟨_, rfl, rfl, _, rfl, iteF ⟨_, rfl, ?_⟩⟩
        refine z_ixD (show Dp K H' (.ref a) (sq true [.int n, .int (0 : Nat)]) from hd) (Le.refl _) (j := 0) rfl rfl fun u hu => ?_
        cases hu
        exact q (some n) H' (fsb_of (by omega) h3 h4 h5 c c2 (first_fst (by omega) F)) ((x1.trans x2).trans x)
/-- the last one below so many -/
def spLast : Sp := fun vs H Q _ => ∃ b st A l h N : Int, vs = [.int b, .int st, .int A, .int l, .int h, .int N] ∧ 1 ≤ A ∧ A ≤ 10 ^ 50 ∧ 0 ≤ l ∧ l ≤ h ∧ h < A ∧ 0 ≤ N ∧ N ≤ 10 ^ 50 ∧ st.natAbs ≤ 10 ^ 60 ∧ ∀ r H', Lsb b st A l h N r → Ex [] H H' → Q (optV r) H'
theorem ok_last_below (T : Txt K mg) : FnOk P w K mg base CX0 4 T.a_last_below T.d_last_below P_last_below spLast := by
  have nd := sc_last_below.nd
  have G_first_in := ok_first_in (P := P) (w := w) (base := base) T
  refine T.F_last_below.ok sc_last_below (fun vs H Q E h => ?_) (fun cdv A outer s H vs Q E hr h => ?_)
  · obtain ⟨b, st, A, l, h, N, rfl, _⟩ := h
    rfl
  · obtain ⟨b, st, A0, l, h, N, rfl, h1, h2, h3, h4, h5, h6, h7, h8, q⟩ := h
    have hr_first_in := hr
    have t50 : (10 : Int) ^ 50 = 100000000000000000000000000000000000000000000000000 := by decide
    have t60 : 10 ^ 60 = 1000000000000000000000000000000000000000000000000000000000000 := by decide
    refine ⟨_, (pss_cons (ps_set (i := 6) nd rfl (Or.inl rfl) (pe_call G_first_in hr_first_in (by rfl) T.m_first_in T.k_first_in T.b_first_in .nil pass0 (pa_cons (pe_op op_add (pv 0) (pe_op op_mulW (pe_op op_sub (pv 5) pe_int) (pv 1))) (pa_cons (pe_un un_neg (pv 1)) (pa_cons (pv 2) (pa_cons (pv 3) (pa_cons (pv 4) pa_nil)))))))
      (pss_cons (ps_if (PW.pt (pw_or (pt_cmpR op_isN (pv 6) pe_non (nomark _)) (pw_or1 (pt_cmpR op_ge (pv 6) (pv 5) (nomark _))))) (pss_one (ps_ret pe_non)) pss_nil)
      (pss_one (ps_ret (pe_op op_sub (pe_op op_sub (pv 5) pe_int) (pv 6)))))), ?_⟩
    walk_at "un"
    refine ⟨_, rfl, _, rfl, _, _, rfl, rfl, _, rfl, _, _, rfl, rfl, mulw_of (by omega) h8, _, _, rfl, rfl, _, rfl, _, rfl, _, rfl, _, rfl, _, rfl, ?_⟩
    refine ⟨_, _, A0, l, h, rfl, h1, h2, h3, h4, h5, fun r H1 f x1 => ?_⟩
    have ff := lsb_of f
    refine ⟨_, rfl, ?_⟩
    cases r with
    | none => exact ⟨rfl, true, by rw [show optV none = V.non from rfl, decide_eq_true rfl], iteT (iteT (q none H1 ff x1))⟩
    | some n =>
      refine ⟨rfl, false, by rw [decide_eq_false (by show ¬ V.int (n : Int) = V.non; simp)], iteF ⟨_, rfl, _, rfl, _, _, rfl, rfl, _, rfl, ite2 (fun c => ?_) (fun c => ?_)⟩⟩
      · have c' : N ≤ (n : Int) := of_decide_eq_true c
        have e : lastOf N (some n) = none := if_neg (by omega)
        rw [e] at ff
        exact q none H1 ff x1
      · have c' : ¬ N ≤ (n : Int) := of_decide_eq_false (Bool.eq_false_iff.mpr c)
        have e : lastOf N (some n) = some (N - 1 - n).toNat := if_pos (by omega)
        rw [e] at ff
        have := q _ H1 ff x1
        refine ⟨_, rfl, _, _, rfl, rfl, _, rfl, _, _, rfl, rfl, ?_⟩
        have e2 : (((N - 1 - n).toNat : Nat) : Int) = N - 1 - n := by omega
        have e3 : optV (some (N - 1 - n).toNat) = .int (N - 1 - n) := by show V.int _ = _; rw [e2]
        rw [e3] at this
        exact this
/-- sums of floors -/
def spFloors : Sp := fun vs H Q _ => ∃ (n : Nat) (m a b : Int), vs = [.int n, .int m, .int a, .int b] ∧ (n : Int) ≤ 10 ^ 41 ∧ 0 < m ∧ m ≤ 10 ^ 50 ∧ 0 ≤ a ∧ a ≤ 10 ^ 50 ∧ 0 ≤ b ∧ b ≤ 10 ^ 51 ∧ Q (.int (fsum n m a b)) H
theorem ok_floors (T : Txt K mg) : FnOk P w K mg base CX0 1 T.a__law_floors T.d__law_floors P__law_floors spFloors := by
  have nd := sc__law_floors.nd
  refine T.F__law_floors.ok sc__law_floors (fun vs H Q E h => ?_) (fun cdv A outer s H vs Q E hr h => ?_)
  · obtain ⟨n, m, a, b, rfl, _⟩ := h
    rfl
  · obtain ⟨n0, m0, a0, b0, rfl, h1, h2, h3, h4, h5, h6, h7, q⟩ := h
    have t41 : (10 : Int) ^ 41 = 100000000000000000000000000000000000000000 := by decide
    have t50 : (10 : Int) ^ 50 = 100000000000000000000000000000000000000000000000000 := by decide
    have t51 : (10 : Int) ^ 51 = 1000000000000000000000000000000000000000000000000000 := by decide
    have t60 : (10 : Int) ^ 60 = 1000000000000000000000000000000000000000000000000000000000000 := by decide
    have t150 : 10 ^ 150 = 1000000000000000000000000000000000000000000000000000000000000000000000000000000000000000000000000000000000000000000000000000000000000000000000000000000 := by decide
    refine ⟨_, (pss_cons (ps_set (i := 4) nd rfl (Or.inl rfl) pe_int)
      (pss_cons (ps_while PassesOwn.never (pt_cmpR op_gt (pv 0) pe_int (nomark _)) (pss_cons (ps_set (i := 4) nd rfl (Or.inl rfl) (pe_op op_add (pv 4) (pe_op op_mulW (pe_op op_fdivW (pe_op op_mulW (pe_op op_sub (pv 0) pe_int) (pv 0)) pe_int) (pe_op op_fdivW (pv 2) (pv 1)))))
      (pss_cons (ps_set (i := 4) nd rfl (Or.inl rfl) (pe_op op_add (pv 4) (pe_op op_mulW (pv 0) (pe_op op_fdivW (pv 3) (pv 1)))))
      (pss_cons (ps_par (i := 2) (j := 3) (by rfl) nd rfl rfl (by decide) rfl rfl (pa_cons (pe_op op_mod (pv 2) (pv 1)) (pa_cons (pe_op op_mod (pv 3) (pv 1)) pa_nil)) (by rfl))
      (pss_cons (ps_set (i := 5) nd rfl (Or.inl rfl) (pe_op op_add (pe_op op_mulW (pv 2) (pv 0)) (pv 3)))
      (pss_cons (ps_if (pt_cmpR op_lt (pv 5) (pv 1) (nomark _)) (pss_one (ps_ret (pv 4))) pss_nil)
      (pss_cons (ps_par (i := 0) (j := 3) (by rfl) nd rfl rfl (by decide) rfl rfl (pa_cons (pe_op op_fdivW (pv 5) (pv 1)) (pa_cons (pe_op op_mod (pv 5) (pv 1)) pa_nil)) (by rfl))
      (pss_one (ps_par (i := 1) (j := 2) (by rfl) nd rfl rfl (by decide) rfl rfl (pa_cons (pv 2) (pa_cons (pv 1) pa_nil)) (by rfl))))))))))
      (pss_one (ps_ret (pv 4))))), ?_⟩
    walk_at "un"
    refine ⟨fun c σ H' => ∃ (n : Nat) (m a b t : Int) (u : Option V), σ = [some (.int n), some (.int m), some (.int a), some (.int b), some (.int t), u] ∧ c = m.toNat ∧ (n : Int) ≤ 10 ^ 41 ∧ 0 < m ∧ m ≤ 10 ^ 50 ∧ 0 ≤ a ∧ a ≤ 10 ^ 50 ∧ 0 ≤ b ∧ b ≤ 10 ^ 51 ∧ t + fsum n m a b = fsum n0 m0 a0 b0 ∧ H' = H,
      ⟨m0.toNat, n0, m0, a0, b0, 0, _, rfl, rfl, h1, h2, h3, h4, h5, h6, h7, by omega, rfl⟩, fun c σ H' hw => ?_⟩
    obtain ⟨n, m, a, b, t, u, rfl, rfl, k1, k2, k3, k4, k5, k6, k7, ht, rfl⟩ := hw
    refine ⟨_, rfl, _, _, rfl, rfl, _, rfl, ite2 (fun c => ?_) (fun c => ?_)⟩
    · have n1 : (0 : Int) < n := of_decide_eq_true c
      refine ⟨_, fun _ _ hh => hh, ?_⟩
      walk_at "un"
      have nn0 : 0 ≤ ((n : Int) - 1) * n := Int.mul_nonneg (by omega) (by omega)
      have nn1 : ((n : Int) - 1) * n ≤ 10 ^ 82 := by
        have e1 : ((n : Int) - 1) * n ≤ 10 ^ 41 * n := Int.mul_le_mul_of_nonneg_right (by omega) (by omega)
        have e2 : (10 : Int) ^ 41 * n ≤ 10 ^ 41 * 10 ^ 41 := Int.mul_le_mul_of_nonneg_left k1 (by decide)
        exact Int.le_trans e1 (Int.le_trans e2 (by decide))
      have t82 : (10 : Int) ^ 82 = 10000000000000000000000000000000000000000000000000000000000000000000000000000000000 := by decide
      have dm0 := Int.ediv_nonneg k4 (show 0 ≤ m by omega)
      have dm1 : a / m ≤ a := Int.ediv_le_self _ k4
      have db0 := Int.ediv_nonneg k6 (show 0 ≤ m by omega)
      have db1 : b / m ≤ b := Int.ediv_le_self _ k6
      have ra0 := Int.emod_nonneg a (show m ≠ 0 by omega)
      have ra1 := Int.emod_lt_of_pos a k2
      have rb0 := Int.emod_nonneg b (show m ≠ 0 by omega)
      have rb1 := Int.emod_lt_of_pos b k2
      have hf := fsum_less k2 n a b
      have dv : ∀ z : Int, CDivW z m := fun z => divw_of k2 (by omega)
      refine ⟨_, rfl, _, rfl, _, _, rfl, rfl, _, rfl, _, _, rfl, rfl, mulw_big (by omega) (by omega), _, _, rfl, rfl, divw_of (by decide) (by decide), _, rfl, _, rfl, _, _, rfl, rfl, dv _, _, _, rfl, rfl, mulw_big (by omega) (by omega), _, _, rfl, rfl, ?_⟩
      refine ⟨_, rfl, _, rfl, _, rfl, _, rfl, _, _, rfl, rfl, dv _, _, _, rfl, rfl, mulw_big (by omega) (by omega), _, _, rfl, rfl, ?_⟩
      refine ⟨_, rfl, _, rfl, _, _, rfl, rfl, k2, _, rfl, _, rfl, _, _, rfl, rfl, k2, _, _, rfl, ?_⟩
      refine ⟨_, rfl, _, rfl, _, _, rfl, rfl, mulw_big (by omega) (by omega), _, rfl, _, _, rfl, rfl, ?_⟩
      walk_at "un"
      have an0 : 0 ≤ a % m * n := Int.mul_nonneg ra0 (by omega)
      have an1 : a % m * n ≤ (m - 1) * n := Int.mul_le_mul_of_nonneg_right (by omega) (by omega)
      have an2 : (m - 1) * (n : Int) = m * n - n := by rw [Int.sub_mul, Int.one_mul]
      refine ⟨_, rfl, _, rfl, _, _, rfl, rfl, _, rfl, ite2 (fun c2 => ?_) (fun c2 => ?_)⟩
      · have c2 : a % m * n + b % m < m := of_decide_eq_true c2
        refine ⟨_, rfl, ?_⟩
        rw [fsum_none ra0 rb0 c2] at hf
        rw [← ht, hf, Int.add_zero, ← Int.add_assoc] at q
        exact q
      · have c2 : m ≤ a % m * n + b % m := Int.not_lt.mp (of_decide_eq_false (Bool.eq_false_iff.mpr c2))
        rw [fsum_swap ra0 ra1 rb0 rb1 c2] at hf
        have ra2 : 0 < a % m := by
          rcases Int.lt_or_eq_of_le ra0 with z | z
          · exact z
          · rw [← z, Int.zero_mul] at c2; omega
        have y0 : 0 ≤ (a % m * n + b % m) / m := Int.ediv_nonneg (by omega) (by omega)
        have y1 : (a % m * n + b % m) / m < n + 1 := Int.ediv_lt_of_lt_mul k2 (by rw [Int.add_mul, Int.one_mul, Int.mul_comm (n : Int)]; omega)
        have z0 := Int.emod_nonneg (a % m * n + b % m) (show m ≠ 0 by omega)
        have z1 := Int.emod_lt_of_pos (a % m * n + b % m) k2
        refine ⟨_, rfl, _, rfl, _, _, rfl, rfl, dv _, _, rfl, _, rfl, _, _, rfl, rfl, k2, _, _, rfl, ?_⟩
        refine ⟨_, rfl, _, rfl, _, _, rfl, ?_⟩
        refine ⟨(a % m).toNat, by omega, ((a % m * n + b % m) / m).toNat, a % m, m, (a % m * n + b % m) % m, t + ((n : Int) - 1) * n / 2 * (a / m) + n * (b / m), some (.int (a % m * n + b % m)), ?_, rfl, by omega, ra2, by omega, by omega, k3, z0, by omega, ?_, rfl⟩
        · rw [Int.toNat_of_nonneg y0]; rfl
        · rw [← ht, hf]; omega
    · have n1 : n = 0 := by
        have := of_decide_eq_false (Bool.eq_false_iff.mpr c)
        omega
      subst n1
      have e : fsum 0 m a b = 0 := rfl
      rw [e, Int.add_zero] at ht
      rw [← ht] at q
      exact ⟨_, rfl, q⟩
/-- how many of the first steps lead into a window -/
def hits (b st A l h : Int) (n : Nat) : Int := sm (fun k => if l ≤ (b + k * st) % A ∧ (b + k * st) % A ≤ h then 1 else 0) n
theorem hits_eq {b st A l h : Int} (A0 : 0 < A) (l0 : 0 ≤ l) (lh : l ≤ h) (hA : h < A) (n : Nat) : fsum n A (st % A) (b % A + A - l) - fsum n A (st % A) (b % A + A - h - 1) = hits b st A l h n := by
  unfold fsum hits
  rw [← sm_sub]
  refine sm_congr fun k _ => ?_
  have e : ∀ z : Int, st % A * k + (b % A + A - z) = (b % A + st % A * k) + A - z := fun z => by omega
  have e2 : st % A * k + (b % A + A - h - 1) = (b % A + st % A * k) + A - h - 1 := by omega
  rw [e, e2, hit_one A0 l0 lh hA]
  have e3 : (b % A + st % A * k) % A = (b + k * st) % A := by
    rw [Int.add_emod, Int.emod_emod, Int.mul_emod, Int.emod_emod, ← Int.mul_emod, ← Int.add_emod, Int.mul_comm]
  rw [e3]
theorem hits_zero {b st A l h : Int} {n : Nat} : hits b st A l h n = 0 ↔ ∀ k : Nat, k < n → ¬ Inb b st A l h k := by
  refine ⟨fun e k hk i => ?_, fun no => sm_zero fun k hk => if_neg (no k hk)⟩
  have := sm_all (F := fun k : Nat => if l ≤ (b + k * st) % A ∧ (b + k * st) % A ≤ h then (1 : Int) else 0) (fun k _ => by split <;> omega) e k hk
  rw [if_pos (show l ≤ (b + (k : Int) * st) % A ∧ (b + (k : Int) * st) % A ≤ h from i)] at this
  omega
theorem hits_ext {b st A l h : Int} {n m : Nat} (le : n ≤ m) (no : ∀ k : Nat, n ≤ k → k < m → ¬ Inb b st A l h k) : hits b st A l h n = hits b st A l h m := by
  obtain ⟨j, rfl⟩ : ∃ j, m = n + j := ⟨m - n, by omega⟩
  unfold hits
  have z : sm (fun k : Nat => if l ≤ (b + ((n + k : Nat) : Int) * st) % A ∧ (b + ((n + k : Nat) : Int) * st) % A ≤ h then (1 : Int) else 0) j = 0 := sm_zero fun k hk => if_neg (no (n + k) (by omega) (by omega))
  rw [sm_split, z, Int.add_zero]
def spHits : Sp := fun vs H Q _ => ∃ (n : Nat) (b st A l h : Int), vs = [.int n, .int b, .int st, .int A, .int l, .int h] ∧ (n : Int) ≤ 10 ^ 41 ∧ 0 < A ∧ A ≤ 10 ^ 50 ∧ 0 ≤ l ∧ l ≤ h ∧ h < A ∧ Q (.int (hits b st A l h n)) H
theorem ok_hits (T : Txt K mg) : FnOk P w K mg base CX0 2 T.a__law_hits T.d__law_hits P__law_hits spHits := by
  have nd := sc__law_hits.nd
  have G__law_floors := ok_floors (P := P) (w := w) (base := base) T
  refine T.F__law_hits.ok sc__law_hits (fun vs H Q E h => ?_) (fun cdv A outer s H vs Q E hr h => ?_)
  · obtain ⟨n, b, st, A, l, h, rfl, _⟩ := h
    rfl
  · obtain ⟨n, b, st, N, l, h, rfl, h1, h2, h3, h4, h5, h6, q⟩ := h
    have hr__law_floors := hr
    have t50 : (10 : Int) ^ 50 = 100000000000000000000000000000000000000000000000000 := by decide
    have t51 : (10 : Int) ^ 51 = 1000000000000000000000000000000000000000000000000000 := by decide
    refine ⟨_, (pss_cons (ps_par (i := 1) (j := 2) (by rfl) nd rfl rfl (by decide) rfl rfl (pa_cons (pe_op op_mod (pv 1) (pv 3)) (pa_cons (pe_op op_mod (pv 2) (pv 3)) pa_nil)) (by rfl))
      (pss_cons (ps_set (i := 6) nd rfl (Or.inl rfl) (pe_call G__law_floors hr__law_floors (by rfl) T.m__law_floors T.k__law_floors T.b__law_floors .nil pass0 (pa_cons (pv 0) (pa_cons (pv 3) (pa_cons (pv 2) (pa_cons (pe_op op_sub (pe_op op_add (pv 1) (pv 3)) (pv 4)) pa_nil))))))
      (pss_one (ps_ret (pe_op op_sub (pv 6) (pe_call G__law_floors hr__law_floors (by rfl) T.m__law_floors T.k__law_floors T.b__law_floors .nil pass0 (pa_cons (pv 0) (pa_cons (pv 3) (pa_cons (pv 2) (pa_cons (pe_op op_sub (pe_op op_sub (pe_op op_add (pv 1) (pv 3)) (pv 5)) pe_int) pa_nil)))))))))), ?_⟩
    walk_at "un"
    have b0 := Int.emod_nonneg b (show N ≠ 0 by omega)
    have b1 := Int.emod_lt_of_pos b h2
    have s0 := Int.emod_nonneg st (show N ≠ 0 by omega)
    have s1 := Int.emod_lt_of_pos st h2
    refine ⟨_, rfl, _, rfl, _, _, rfl, rfl, h2, _, rfl, _, rfl, _, _, rfl, rfl, h2, _, _, rfl, ?_⟩
    refine ⟨_, rfl, _, rfl, _, rfl, _, rfl, _, rfl, _, _, rfl, rfl, _, rfl, _, _, rfl, rfl, n, N, st % N, b % N + N - l, rfl, h1, h2, h3, s0, by omega, by omega, by omega, ?_⟩
    refine ⟨_, rfl, _, rfl, _, rfl, _, rfl, _, rfl, _, rfl, _, _, rfl, rfl, _, rfl, _, _, rfl, rfl, _, _, rfl, rfl, n, N, st % N, b % N + N - h - 1, rfl, h1, h2, h3, s0, by omega, by omega, by omega, _, _, rfl, rfl, ?_⟩
    rw [← hits_eq h2 h4 h5 h6] at q
    exact q
end
end Z10
set_option Elab.async false
set_option linter.all false
set_option maxRecDepth 100000
set_option maxHeartbeats 2000000
namespace Hz
open PySem PySem.Spec PyProof.Rows L2
/-! ### defs that ask for a repr: no repr is under way where they are called -/
structure FnG (P : Program) (w : World) (K : PySem.W.Frag) (mg : Str → Option Value) (base : Heap) (k : Nat) (f : Addr) (fd : FuncData) (ps : List Str) (sp : Sp) : Prop where
  len : ∀ vs H Q E, sp vs H Q E → vs.length = ps.length
  go : ∀ (A : Around) (outer : List Env) (s : Shared) (H : Hp) (args : Args) (us : List Value) (vs : List V) (Q : VK) (E : XK),
    Room k A → A.guards = some [] → Env0 P w K mg base A outer s H → BindsTo s fd args (ps.zip us) → Vals vs us → sp vs H Q E → codeAny (model P w) A (.call (.ref f) args) (CR CX0 outer P w H s Q E) s
section
variable {P : Program} {w : World} {K : PySem.W.Frag} {mg : Str → Option Value} {base : Heap} {k : Nat} {f : Addr} {fd : FuncData} {ps : List Str} {sp : Sp}
/-- the body of such a def -/
theorem okG {x qual : Str} {st : Stmt} {N : List Str} (F : Fun K x qual st f fd) (S : FnScope N ps (defScope st)) (len : ∀ vs H Q E, sp vs H Q E → vs.length = ps.length)
    (body : ∀ (cdv : Value) (A : Around) (outer : List Env) (s : Shared) (H : Hp) (vs : List V) (Q : VK) (E : XK), Room k (A.deeper (envOfC qual (defScope st) s.heap.objs.size f cdv)) → A.guards = some [] → sp vs H Q E →
      ∃ t, PSs (cxOf CX0 P w K mg base N qual (defScope st) f cdv A outer s H E).nox (defBody st) t ∧ t { nx := fun _ H' => Q .non H', rt := Q } (start N vs) H) : FnG P w K mg base (k + 1) f fd ps sp := by
  obtain ⟨oc, od, kV, doc, pm, an, cdv, ct, osl, rfl, lk, code⟩ := F.ex
  refine ⟨len, fun A outer s H args us vs Q E room gd e0 bd rv want => ?_⟩
  have inK : K.In s.heap := e0.mod.kin.keeps fun b o e => (e0.bs b o e).1
  have noLim : s.heap.NoLimit := e0.mod.nolimit.keeps fun b o e => (e0.bs b o e).1
  have places : ∀ y ∈ ps.zip us, (defScope st).names.lookup y.1 = some .local ∨ ((defScope st).names.lookup y.1 = some .cell ∧ ((cellsFrom (s.heap.objs.size + 1) (defScope st).names []).lookup y.1).isSome = true) := by
    rintro ⟨n, v⟩ hy
    exact (S.par n (List.of_mem_zip hy).1).elim .inl fun q => .inr ⟨q, PySem.W.cellsFrom_some _ _ _ (.inl q)⟩
  refine codeAny_call_function room.depth (inK _ _ lk) rfl S.co S.gen rfl (PySem.W.codeRec_of inK code) (bd _ _ _ _ ?_)
  refine wpAny_newFunctionEnv_cells S.kind places fun env made s1 x => ?_
  subst made
  refine ⟨noLim.keeps x.toInCall.keep, codeAny_func ?_⟩
  obtain ⟨t, ht, hq⟩ := body cdv A outer s H vs Q E (room.deeper _) gd want
  refine wpAny_mono (ht.nox.run [] s1 (start N vs) H _ (inv_start S room.hd e0 (len _ _ _ _ want) rv x) hq) (fun fl s' ends => ?_) fun _ _ z => z
  match fl, ends with
  | .ret u, ⟨v, σ', H', J, r, q⟩ => exact ⟨v, H', J.os, J.bare, J.base, J.hok, r, q⟩
  | .next, ⟨σ', H', J, q⟩ => exact ⟨V.non, H', J.os, J.bare, J.base, J.hok, rfl, q⟩
  | .brk, ⟨_, _, _, q⟩ => exact q.elim
  | .cont, ⟨_, _, _, q⟩ => exact q.elim
end
section
variable {X : Cx} {k : Nat} {f : Addr} {fd : FuncData} {ps : List Str} {sp : Sp} {x : Str} {p pos : Pos} {e : Expr} {es : List Expr} {t : TA}
/-- its call by name -/
theorem pe_callG (F : FnG X.prog X.w X.K X.mg X.base k f fd ps sp) (room : Room k X.A) (gd : X.A.guards = some []) (glob : Gl X x) (stands : X.mg x = some (.ref f)) (kept : PySem.W.keepIn X.K (.ref f) = true) (bd : Binds X.K fd ps [])
    (ha : PA X (e :: es) t) (nd : (x == ("__debug__" : Str)) = false := by decide) (plain : starEach (e :: es) X.env = (false, eval e X.env) :: starEach es X.env := by rfl) (nostar : (backTo pos (starEach es X.env)).any (·.1) = false := by rfl) :
    PE X (.Call (.Name x p) (e :: es) [] pos) (tCall sp [] E0 t) := by
  refine ⟨fun pins s σ H Q J h => wpAny_Call_Name_kw (ld_glob J glob stands ?_ nd)⟩
  refine PySem.W.callWith_K (h₀ := X.base) J.ok.mod.kin kept (thn (ha.run pos pins s σ H _ J h) fun us s1 ⟨vs, H1, J1, rv, want⟩ => ⟨J1.kIn, ?_⟩) plain nostar
  have rv' : Vals (vs ++ []) (us ++ []) := rv.append .nil
  have many : (us ++ []).length = ps.length := by rw [← rv'.length]; exact F.len _ _ _ _ want
  refine wpAny_call (codeAny_mono (F.go X.A X.stack s1 H1 ⟨us, []⟩ (us ++ []) (vs ++ []) Q E0 room gd J1.env0 (bd s1 us J1.kIn many) rv' want) fun r s' hq => ?_)
  match r, hq with
  | .ok (.ret u), hq => exact J1.after hq
  | .ok .next, hq => exact hq.elim
  | .ok .brk, hq => exact hq.elim
  | .ok .cont, hq => exact hq.elim
  | .error _, hq => exact hq.elim
/-- repr of data -/
def rRepr (K : PySem.W.Frag) : List V → Hp → VK → Prop := fun xs H Q => ∃ (x : V) (d : PyData), xs = [x] ∧ Dp K H x d ∧ d.showable = true ∧ d.hasDict = false ∧ d.depth ≤ 20 ∧ d.shown.length ≤ sizeLine ∧ (∃ a, x = .ref a) ∧ Q (.str d.shown) H
theorem reprK (K : PySem.W.Frag) (units : X.A.units + 64 < cLine) (gd : X.A.guards = some []) (h : X.K = K := by rfl) : CallR X (.builtin "repr") (rRepr K) := by
  subst h
  intro pins s σ H xs us Q J rv ⟨x, d, ex, hd, h1, h2, h3, h4, ⟨a, ea⟩, q⟩
  subst ex
  subst ea
  obtain ⟨u, rfl, r⟩ := Vals.one rv
  obtain ⟨as, rd⟩ := Dp.reads J d _ u hd r
  cases r
  exact repr_of_reads' rd h1 (PyData.noDict_hsm h2) gd (by omega) (fun _ _ z => z) (fun h' t tk hk => ⟨.str d.shown, H, J.kept hk, ⟨_, rfl⟩, q⟩) h4
end

section
variable {X : Cx}
/-- parts by a list or a tuple -/
def gSq (K : PySem.W.Frag) (n : Nat) (t : TGs) : TG := fun v σ H Q => gUnl K n t v σ H Q ∨ gTup K n t v σ H Q
theorem pg_seqK (K : PySem.W.Frag) (n : Nat) {es : List Expr} {k : Nat} {t : TGs} {pos : Pos} (hc : X.calm = true) (h : PGs X es t) (hK : X.K = K := by rfl) (hn : (assignEach es X.env).length = n := by rfl) (hst : (assignEach es X.env).findIdx? (·.1) = none := by rfl) : PG X (.Tuple es k pos) (gSq K n t) := by
  subst hK
  refine ⟨fun pins s σ H v u Q I r hw => ?_⟩
  rcases hw with hw | hw
  · exact (pg_unl hc h hn hst).run pins s σ H v u Q I r hw
  · exact (pg_tup hc h hn hst).run pins s σ H v u Q I r hw
end
/-! ### the law's own call -/
theorem law_runG {P : Program} {w : World} {K : PySem.W.Frag} {mg mb : Str → Option Value} {k : Nat} {fa a : Addr} {fd : FuncData} {x : Str} {sp : Sp} {s1 : Shared} {vs : List Value} {ns : List Int}
    (inK : K.In s1.heap) (names : s1.heap.Ns mainGlobals mg) (blt : s1.heap.Ns builtinsNs mb) (boot : ∀ x : Str, x ≠ "__name__" → mb x = bootBuiltins x) (lim : s1.heap.NoLimit) (gens : s1.gens = #[])
    (at_ : s1.heap.get? a = some { cls := .type "list", data := .seq vs.toArray }) (hints : IntsAre vs ns) (few : ns.length ≤ sizeLine) (room : Room k callerA)
    (F : ∀ base : Heap, K.In base → base.Ns mainGlobals mg → FnG P w K mg base k fa fd [x] sp) (bd : ∀ (s : Shared) (u : Value), BindsTo s fd ⟨[u], []⟩ [(x, u)])
    (want : ∀ H : Hp, Only H → SqL K H a (ns.map V.int) → sp [.ref a] H (fun v _ => v = .bl true) fun _ _ _ => False) :
    codeAny (model P w) callerA (.call (.ref fa) ⟨[.ref a], []⟩) (fun r s' => r = .ok (.ret (.bool true)) ∧ OldK s1.heap s'.heap ∧ s'.os = s1.os ∧ AllBare s'.gens) s1 := by
  have rv := vals_ints hints
  -- either the script is one of the module's own objects (nothing is tracked), or it is the only thing tracked, locked
  have run : ∀ H : Hp, Only H → SqL K H a (ns.map V.int) → HOk P w H s1.heap → (∀ b, H b ≠ none → b = a ∧ K.lookup a = none) →
      codeAny (model P w) callerA (.call (.ref fa) ⟨[.ref a], []⟩) (fun r s' => r = .ok (.ret (.bool true)) ∧ OldK s1.heap s'.heap ∧ s'.os = s1.os ∧ AllBare s'.gens) s1 := by
    intro H only there hok just
    have untracked : ∀ b, (b = a → K.lookup a ≠ none) → H b = none := fun b hb => by
      cases q : H b with
      | none => rfl
      | some u =>
        obtain ⟨e1, e2⟩ := just b (by rw [q]; exact fun z => nomatch z)
        exact absurd e2 (hb e1)
    have dictFree : ∀ {b : Addr} {o : Obj} {es : Array DictEntry} {ep : Nat}, s1.heap.get? b = some o → o.data = .dict es ep → H b = none := fun {b o es ep} e d => by
      cases q : H b with
      | none => rfl
      | some u =>
        obtain ⟨e1, _⟩ := just b (by rw [q]; exact fun z => nomatch z)
        rw [e1, at_] at e
        cases e
        exact nomatch (show Data.seq vs.toArray _ = Data.dict es ep from d)
    have nsB : ∀ {b : Addr} {m : Str → Option Value}, s1.heap.Ns b m → (hidT s1.heap H).Ns b m := fun ⟨o, es, ep, e, d, r⟩ => ⟨o, es, ep, hidT_get e (dictFree e d), d, r⟩
    have inB : K.In (hidT s1.heap H) := fun b o e => hidT_get (inK b o e) (untracked b fun z => by rw [← z, e]; exact fun q => nomatch q)
    have md : Mod K mg (hidT s1.heap H) := ⟨inB, nsB names, ⟨mb, nsB blt, boot⟩, lim.elim fun mc hc => ⟨mc, nsB hc.1, hc.2⟩⟩
    have e0 : Env0 P w K mg (hidT s1.heap H) callerA [] s1 H := ⟨rfl, md, fun _ _ e => of_hidT e, Nat.le_of_eq (hidT_size _ _), trivial, fun b hb => (nomatch (show b ∈ ([] : List Addr) from hb)), hok, .of_eq gens⟩
    refine codeAny_mono ((F _ inB (nsB names)).go callerA [] s1 H ⟨[.ref a], []⟩ [.ref a] [.ref a] _ _ room rfl e0 (bd s1 (.ref a)) (.cons rfl .nil) (want H only there)) fun r s' hr => ?_
    match r, hr with
    | .error _, hr => exact hr.elim
    | .ok .next, hr => exact hr.elim
    | .ok .brk, hr => exact hr.elim
    | .ok .cont, hr => exact hr.elim
    | .ok (.ret u), ⟨v, H2, os, bare, un, hok2, r2, q⟩ =>
      obtain rfl : v = .bl true := q
      obtain rfl : u = Value.bool true := r2
      refine ⟨rfl, OldK.of_keep fun b o e => ?_, os, bare⟩
      rcases only b with z | ⟨ob, xs, z⟩
      · exact un.keep b o e z (fun m => nomatch (show b ∈ ([] : List Addr) from m)) (by simp)
      · have e2 := (hok2 b _ (un.frzs b ob _ z)).1
        rw [show s1.heap.get? b = some ob from (hok b _ z).1] at e
        cases e
        exact e2
  by_cases own : ∃ o, K.lookup a = some o
  · obtain ⟨o, ho⟩ := own
    have e := inK a o ho
    rw [at_] at e
    cases e
    exact run (fun _ => none) (fun _ => .inl rfl) (.inr ⟨_, vs.toArray, _, ho, rfl, rfl, rfl, by rw [List.size_toArray, hints.length]; exact few, by simpa using rv⟩) (fun _ _ z => nomatch (show (none : Option HO) = some _ from z)) fun b z => absurd rfl z
  · have none_ : K.lookup a = none := by
      cases q : K.lookup a with
      | none => rfl
      | some o => exact absurd ⟨o, q⟩ own
    refine run (fun b => if b = a then some (.frz { cls := .type "list", data := .seq vs.toArray } (.lst (ns.map V.int))) else none) (fun b => ?_) (.inl (.inr ⟨_, if_pos rfl⟩)) (fun b u z => ?_) (fun b z => ⟨?_, none_⟩)
    · by_cases hb : b = a
      · exact .inr ⟨_, _, if_pos hb⟩
      · exact .inl (if_neg hb)
    · by_cases hb : b = a
      · cases (if_pos hb).symm.trans z
        subst hb
        exact ⟨at_, by rw [List.length_map]; exact few, vs, _, rv, at_⟩
      · exact nomatch (if_neg hb).symm.trans z
    · exact Decidable.byContradiction fun hb => z (if_neg hb)
theorem walk_G {l : PySem.W.OpenLaw} {n k : Nat} {q : Program} {loose : List Str} {XP : (Str → Option Value) → Heap → Prop} {YP : World → Heap → Prop} {d : DefRec} {K : Params → PySem.W.Frag} {sp : World → Sp} {x : Str}
    (most : l.most = some n) (few : n ≤ sizeLine) (nodf : d.params.defaults = []) (room : Room k callerA) (hY : ∀ (w : World) (h : Heap), YP w h → (K w.params).In h)
    (F : ∀ (w : World) (mg : Str → Option Value) (fa : Addr) (h : Heap), (K w.params).In h → h.Ns mainGlobals mg → mg d.name = some (.ref fa) →
      ∃ fd : FuncData, (∀ (s : Shared) (u : Value), BindsTo s fd ⟨[u], []⟩ [(x, u)]) ∧ ∀ base : Heap, (K w.params).In base → base.Ns mainGlobals mg → FnG l.prog w (K w.params) mg base k fa fd [x] (sp w))
    (want : ∀ (w : World) (H : Hp) (a : Addr) (ns : List Int), ns.length ≤ n → Only H → SqL (K w.params) H a (ns.map V.int) → sp w [.ref a] H (fun v _ => v = .bl true) fun _ _ _ => False) :
    PySem.W.WalkO q loose XP YP l.row.toRowW d [] (fun f vs => PySem.call f vs) := by
  refine Att.attach_call most nodf fun w s0 s1 mg mb fa o pm cd doc a vs ns G Y ho hd hcd stands script hints len gens => ?_
  obtain ⟨fd, bd, hF⟩ := F w mg fa _ (hY w _ Y) G.T.g stands
  exact law_runG (hY w _ Y) G.T.g G.T.b G.T.builtins G.T.nolimit gens script hints (Nat.le_trans len few) room hF bd fun H hO hS => want w H a ns len hO hS
end Hz
set_option Elab.async false
set_option linter.all false
namespace Hz
open PySem PyProof.Rows
/-- whole numbers of some size and truths, in rows of twenty at most -/
def Plain : Nat → PyData → Prop
  | _, .int i => i.natAbs < 10 ^ 20
  | _, .bool _ => True
  | n + 1, .list ds => ds.length ≤ 20 ∧ ∀ d ∈ ds, Plain n d
  | n + 1, .tuple ds => ds.length ≤ 20 ∧ ∀ d ∈ ds, Plain n d
  | _, _ => False
structure PlainOk (n : Nat) (d : PyData) : Prop where
  sh : d.showable = true
  hd : d.hasDict = false
  dp : d.depth ≤ n
  lv : d.leavesShort 21 = true
  bk : d.bulk ≤ 21 ^ n - 1
theorem int_log {i : Int} (h : i.natAbs < 10 ^ 20) : i.natAbs.log2 < 1920 := by
  by_cases z : i.natAbs = 0
  · rw [z]; decide
  · rw [Nat.log2_lt z]
    exact Nat.lt_of_lt_of_le h (Nat.le_trans (show 10 ^ 20 ≤ 2 ^ 100 by decide) (Nat.pow_le_pow_right (by decide) (by decide)))
theorem plain_int (n : Nat) {i : Int} (h : i.natAbs < 10 ^ 20) : PlainOk n (.int i) := by
  refine ⟨?_, by simp only [PyData.hasDict], by simp [PyData.depth], ?_, by simp [PyData.bulk]⟩
  · simp only [PyData.showable, decide_eq_true_eq]
    exact int_log h
  · simp only [PyData.leavesShort, decide_eq_true_eq]
    have := int_text_length_le10 (k := 20) (by decide) h
    show (Str.ofString (toString i)).length ≤ 21
    rw [PySem.ofString_length]
    exact this
theorem plain_all {n : Nat} : ∀ {ds : List PyData}, (∀ d ∈ ds, PlainOk n d) → PyData.showableAll ds = true ∧ PyData.hasDictAll ds = false ∧ PyData.depthAll ds ≤ n ∧ PyData.leavesShortAll 21 ds = true ∧ PyData.bulkAll ds ≤ ds.length * 21 ^ n
  | [], _ => ⟨by simp [PyData.showableAll], by simp [PyData.hasDictAll], by simp [PyData.depthAll], by simp [PyData.leavesShortAll], by simp [PyData.bulkAll]⟩
  | d :: ds, h => by
    obtain ⟨a1, a2, a3, a4, a5⟩ := h d (by simp)
    obtain ⟨b1, b2, b3, b4, b5⟩ := plain_all fun d hd => h d (List.mem_cons_of_mem _ hd)
    have hp : 1 ≤ 21 ^ n := Nat.one_le_pow _ _ (by decide)
    refine ⟨by simp [PyData.showableAll, a1, b1], by simp [PyData.hasDictAll, a2, b2], ?_, by simp [PyData.leavesShortAll, a4, b4], ?_⟩
    · simp only [PyData.depthAll]; omega
    · simp only [PyData.bulkAll, List.length_cons]
      rw [Nat.add_mul, Nat.one_mul]
      omega
theorem plain_ok : ∀ {n : Nat} {d : PyData}, Plain n d → PlainOk n d := by
  intro n
  induction n with
  | zero =>
    intro d h
    cases d with
    | int i => exact plain_int 0 h
    | bool b => exact ⟨by simp [PyData.showable], by simp [PyData.hasDict], by simp [PyData.depth], by simp [PyData.leavesShort], by simp [PyData.bulk]⟩
    | none => exact absurd h (by simp [Plain])
    | str _ => exact absurd h (by simp [Plain])
    | list _ => exact absurd h (by simp [Plain])
    | tuple _ => exact absurd h (by simp [Plain])
    | dict _ => exact absurd h (by simp [Plain])
  | succ n ih =>
    intro d h
    have seq : ∀ ds : List PyData, ds.length ≤ 20 → (∀ d ∈ ds, Plain n d) → PyData.showableAll ds = true ∧ PyData.hasDictAll ds = false ∧ PyData.depthAll ds ≤ n ∧ PyData.leavesShortAll 21 ds = true ∧ PyData.bulkAll ds ≤ 21 ^ (n + 1) - 1 := fun ds hl hd => by
      obtain ⟨a, b, c, d, e⟩ := plain_all fun d h => ih (hd d h)
      refine ⟨a, b, c, d, ?_⟩
      have hp : 1 ≤ 21 ^ n := Nat.one_le_pow _ _ (by decide)
      have : ds.length * 21 ^ n ≤ 20 * 21 ^ n := Nat.mul_le_mul_right _ hl
      rw [Nat.pow_succ]
      omega
    cases d with
    | int i => exact plain_int _ h
    | bool b => exact ⟨by simp [PyData.showable], by simp [PyData.hasDict], by simp [PyData.depth], by simp [PyData.leavesShort], by simp [PyData.bulk]⟩
    | none => exact absurd h (by simp [Plain])
    | str _ => exact absurd h (by simp [Plain])
    | list ds =>
      obtain ⟨a, b, c, d, e⟩ := seq ds h.1 h.2
      exact ⟨by simp [PyData.showable, a], by simp [PyData.hasDict, b], by simp only [PyData.depth]; omega, by simp [PyData.leavesShort, d], by simp only [PyData.bulk]; exact e⟩
    | tuple ds =>
      obtain ⟨a, b, c, d, e⟩ := seq ds h.1 h.2
      exact ⟨by simp [PyData.showable, a], by simp [PyData.hasDict, b], by simp only [PyData.depth]; omega, by simp [PyData.leavesShort, d], by simp only [PyData.bulk]; exact e⟩
    | dict _ => exact absurd h (by simp [Plain])
/-- repr of such data -/
theorem repr_plain {K : PySem.W.Frag} {a : Addr} {d : PyData} {H : L2.Hp} {Q : L2.VK} (hd : L2.Dp K H (.ref a) d) (h : Plain 4 d) (q : Q (.str d.shown) H) : rRepr K [.ref a] H Q := by
  obtain ⟨h1, h2, h3, h4, h5⟩ := plain_ok h
  refine ⟨.ref a, d, rfl, hd, h1, h2, by omega, ?_, ⟨a, rfl⟩, q⟩
  have := PyData.shown_le_bulk 21 (by decide) d h4
  have e : sizeLine = 16777216 := by decide
  have e2 : 21 ^ 4 - 1 = 194480 := by decide
  omega
end Hz
set_option Elab.async false
set_option linter.all false
set_option maxRecDepth 100000
set_option maxHeartbeats 2000000
namespace Hz
open PySem PySem.Spec PyProof.Rows L2
/-! ### truths among numbers; texts of scalars -/
def b01 (b : Bool) : Int := if b = true then 1 else 0
section
variable {X : Cx}
/-- str of a number or a truth -/
theorem strX : CallR X (.type "str") (fun xs H Q => (∃ i, xs = [.int i] ∧ i.natAbs.log2 < 1920 ∧ Q (.str (toString i)) H) ∨ ∃ b : Bool, xs = [.bl b] ∧ Q (.str (if b = true then "True" else "False")) H) := by
  intro pins s σ H xs us Q J r h
  rcases h with ⟨i, rfl, hz, q⟩ | ⟨b, rfl, q⟩
  · obtain ⟨u, rfl, t, rfl⟩ := vals1 r
    exact PySem.P.str_of_int hz ⟨.str _, H, J.tok _, ⟨_, rfl⟩, q⟩
  · obtain ⟨u, rfl, e⟩ := Vals.one r
    cases e
    exact PySem.P.str_of_bool ⟨.str _, H, J.tok _, ⟨_, rfl⟩, q⟩
/-- what an int or a truth counts -/
def cnt : V → Option Int
  | .int i => some i
  | .bl b => some (b01 b)
  | _ => none
theorem addX : OpR X (binaryOp .Add) (fun x y H Q => ∃ i j, cnt x = some i ∧ y = .int j ∧ Q (.int (i + j)) H) := by
  intro pins s σ H x y v u Q J rx ry h
  obtain ⟨i, j, e, rfl, q⟩ := h
  obtain ⟨t, rfl⟩ := ry
  cases x with
  | int k =>
    cases e
    exact op_add pins s σ H (.int i) (.int j) v (.int j t) Q J rx (show RelV (.int j) (.int j t) from ⟨t, rfl⟩) ⟨_, _, rfl, rfl, q⟩
  | bl b =>
    cases e
    cases rx
    exact PySem.IntBool.add_bool_int ⟨.int _, H, J.tok _, ⟨_, rfl⟩, q⟩
  | _ => cases e
theorem subX : OpR X (binaryOp .Sub) (fun x y H Q => ∃ i j, x = .int i ∧ cnt y = some j ∧ Q (.int (i - j)) H) := by
  intro pins s σ H x y v u Q J rx ry h
  obtain ⟨i, j, rfl, e, q⟩ := h
  obtain ⟨t, rfl⟩ := rx
  cases y with
  | int k =>
    cases e
    exact op_sub pins s σ H (.int i) (.int j) (.int i t) u Q J (show RelV (.int i) (.int i t) from ⟨t, rfl⟩) ry ⟨_, _, rfl, rfl, q⟩
  | bl b =>
    cases e
    cases ry
    exact PySem.IntBool.sub_int_bool ⟨.int _, H, J.tok _, ⟨_, rfl⟩, q⟩
  | _ => cases e
/-- repr of data of any kind -/
def rReprX (K : PySem.W.Frag) : List V → Hp → VK → Prop := fun xs H Q => ∃ (x : V) (d : PyData), xs = [x] ∧ Dp K H x d ∧ d.showable = true ∧ d.hasDict = false ∧ d.depth ≤ 20 ∧ d.shown.length ≤ sizeLine ∧ Q (.str d.shown) H
theorem reprX (K : PySem.W.Frag) (units : X.A.units + 64 < cLine) (gd : X.A.guards = some []) (h : X.K = K := by rfl) : CallR X (.builtin "repr") (rReprX K) := by
  intro pins s σ H xs us Q J r hh
  obtain ⟨x, d, ex, hd, h1, h2, h3, h4, q⟩ := hh
  by_cases c : ∃ a, x = .ref a
  · exact reprK K units gd h pins s σ H xs us Q J r ⟨x, d, ex, hd, h1, h2, h3, h4, c, q⟩
  · subst ex
    obtain ⟨u, rfl, e⟩ := Vals.one r
    cases hd with
    | non =>
      cases e
      exact PySem.P.repr_of_none ⟨.str _, H, J.tok _, ⟨_, rfl⟩, q⟩
    | bl b =>
      cases e
      exact PySem.P.repr_of_bool ⟨.str _, H, J.tok _, ⟨_, rfl⟩, q⟩
    | int i =>
      obtain ⟨t, rfl⟩ := e
      exact PySem.P.repr_of_int (of_decide_eq_true h1) ⟨.str _, H, J.tok _, ⟨_, rfl⟩, q⟩
    | str z =>
      obtain ⟨t, rfl⟩ := e
      exact PySem.P.repr_of_str ⟨.str _, H, J.tok _, ⟨_, rfl⟩, q⟩ h4
    | _ => exact absurd ⟨_, rfl⟩ c
end
end Hz
set_option Elab.async false
set_option linter.all false
set_option maxRecDepth 100000
set_option maxHeartbeats 2000000
namespace Hz
open PySem PyProof.Rows
mutual
/-- no whole number in it beyond M -/
def iLe (M : Nat) : PyData → Bool
  | .int i => decide (i.natAbs ≤ M)
  | .list ds => iLeAll M ds
  | .tuple ds => iLeAll M ds
  | .none => true
  | .bool _ => true
  | .str _ => true
  | .dict _ => false
def iLeAll (M : Nat) : List PyData → Bool
  | [] => true
  | d :: ds => iLe M d && iLeAll M ds
end
mutual
theorem iLe_show {M : Nat} (hM : M < 10 ^ 20) : ∀ d : PyData, iLe M d = true → d.showable = true ∧ d.intsShort 21 = true
  | .int i, h => by
    have h' : i.natAbs < 10 ^ 20 := Nat.lt_of_le_of_lt (by simpa [iLe] using h) hM
    refine ⟨by simpa [PyData.showable] using int_log h', ?_⟩
    simp only [PyData.intsShort, decide_eq_true_eq]
    show (Str.ofString (toString i)).length ≤ 21
    rw [PySem.ofString_length]
    exact int_text_length_le10 (k := 20) (by decide) h'
  | .bool _, _ => by simp [PyData.showable, PyData.intsShort]
  | .none, _ => by simp [PyData.showable, PyData.intsShort]
  | .str _, _ => by simp [PyData.showable, PyData.intsShort]
  | .list ds, h => by
    obtain ⟨a, b⟩ := iLeAll_show hM ds (by simpa [iLe] using h)
    exact ⟨by simpa [PyData.showable] using a, by simpa [PyData.intsShort] using b⟩
  | .tuple ds, h => by
    obtain ⟨a, b⟩ := iLeAll_show hM ds (by simpa [iLe] using h)
    exact ⟨by simpa [PyData.showable] using a, by simpa [PyData.intsShort] using b⟩
  | .dict _, h => by simp [iLe] at h
theorem iLeAll_show {M : Nat} (hM : M < 10 ^ 20) : ∀ ds : List PyData, iLeAll M ds = true → PyData.showableAll ds = true ∧ PyData.intsShortAll 21 ds = true
  | [], _ => by simp [PyData.showableAll, PyData.intsShortAll]
  | d :: ds, h => by
    have h' : iLe M d = true ∧ iLeAll M ds = true := by simpa [iLeAll] using h
    obtain ⟨a, b⟩ := iLe_show hM d h'.1
    obtain ⟨c, e⟩ := iLeAll_show hM ds h'.2
    exact ⟨by simp [PyData.showableAll, a, c], by simp [PyData.intsShortAll, b, e]⟩
end
/-- data that repr shows and that == takes, whatever its shape: numbers of some size, so deep, so much in all -/
structure Tame (M W D : Nat) (d : PyData) : Prop where
  lay : d.canLay0 = true
  il : iLe M d = true
  dp : d.depth ≤ D
  bk : d.bulk ≤ W
/-- all but the sum -/
def Tame0 (M D : Nat) (d : PyData) : Prop := d.canLay0 = true ∧ iLe M d = true ∧ d.depth ≤ D
theorem Tame.zero {M W D : Nat} {d : PyData} (h : Tame M W D d) : Tame0 M D d := ⟨h.lay, h.il, h.dp⟩
def sumB (ds : List PyData) : Nat := (ds.map fun d => d.bulk + 1).sum
theorem sumB_cons (d : PyData) (ds : List PyData) : sumB (d :: ds) = d.bulk + 1 + sumB ds := by simp [sumB]
theorem sumB_append (a b : List PyData) : sumB (a ++ b) = sumB a + sumB b := by simp [sumB]
theorem sumB_reverse (a : List PyData) : sumB a.reverse = sumB a := by simp [sumB, List.sum_reverse]
theorem bulkAll_eq : ∀ ds : List PyData, PyData.bulkAll ds = sumB ds
  | [] => by simp [PyData.bulkAll, sumB]
  | d :: ds => by
    rw [sumB_cons, ← bulkAll_eq ds]
    simp only [PyData.bulkAll]
mutual
theorem iLe_up {M M' : Nat} (hM : M ≤ M') : ∀ d : PyData, iLe M d = true → iLe M' d = true
  | .int i, h => by
    have : i.natAbs ≤ M := by simpa [iLe] using h
    simpa [iLe] using Nat.le_trans this hM
  | .bool _, _ => by simp [iLe]
  | .none, _ => by simp [iLe]
  | .str _, _ => by simp [iLe]
  | .list ds, h => by simpa [iLe] using iLeAll_up hM ds (by simpa [iLe] using h)
  | .tuple ds, h => by simpa [iLe] using iLeAll_up hM ds (by simpa [iLe] using h)
  | .dict _, h => by simp [iLe] at h
theorem iLeAll_up {M M' : Nat} (hM : M ≤ M') : ∀ ds : List PyData, iLeAll M ds = true → iLeAll M' ds = true
  | [], _ => by simp [iLeAll]
  | d :: ds, h => by
    have h' : iLe M d = true ∧ iLeAll M ds = true := by simpa [iLeAll] using h
    simp [iLeAll, iLe_up hM d h'.1, iLeAll_up hM ds h'.2]
end
theorem Tame.mono {M M' W D W' D' : Nat} {d : PyData} (h : Tame M W D d) (c : M ≤ M') (a : W ≤ W') (b : D ≤ D') : Tame M' W' D' d := ⟨h.lay, iLe_up c d h.il, Nat.le_trans h.dp b, Nat.le_trans h.bk a⟩
theorem Tame0.mono {M M' D D' : Nat} {d : PyData} (h : Tame0 M D d) (c : M ≤ M') (b : D ≤ D') : Tame0 M' D' d := ⟨h.1, iLe_up c d h.2.1, Nat.le_trans h.2.2 b⟩
theorem tame_all {M D : Nat} : ∀ {ds : List PyData}, (∀ d ∈ ds, Tame0 M D d) → PyData.canLayAll0 ds = true ∧ iLeAll M ds = true ∧ PyData.depthAll ds ≤ D
  | [], _ => ⟨by simp [PyData.canLayAll0], by simp [iLeAll], by simp [PyData.depthAll]⟩
  | d :: ds, h => by
    obtain ⟨a1, a2, a4⟩ := h d (by simp)
    obtain ⟨b1, b2, b4⟩ := tame_all fun e he => h e (List.mem_cons_of_mem _ he)
    refine ⟨by simp [PyData.canLayAll0, a1, b1], by simp [iLeAll, a2, b2], ?_⟩
    simp only [PyData.depthAll]
    omega
theorem tame_none {M : Nat} : ∀ {D : Nat} {ds : List PyData}, PyData.canLayAll0 ds = true → iLeAll M ds = true → PyData.depthAll ds ≤ D → ∀ d ∈ ds, Tame0 M D d
  | D, d :: ds, h1, h2, h4, e, he => by
    simp only [PyData.canLayAll0, iLeAll, PyData.depthAll, Bool.and_eq_true] at h1 h2 h4
    rcases List.mem_cons.mp he with rfl | he
    · exact ⟨h1.1, h2.1, by omega⟩
    · exact tame_none h1.2 h2.2 (by omega) e he
theorem tame_seq {t : Bool} {M W D : Nat} {ds : List PyData} (h : ∀ d ∈ ds, Tame0 M D d) (hb : sumB ds ≤ W) : Tame M W (D + 1) (sq t ds) := by
  obtain ⟨a, b, d⟩ := tame_all h
  rw [← bulkAll_eq] at hb
  cases t
  · exact ⟨by show PyData.canLay0 (.list ds) = true; simpa [PyData.canLay0] using a, by show iLe M (.list ds) = true; simpa [iLe] using b, by show PyData.depth (.list ds) ≤ _; simp only [PyData.depth]; omega, by show PyData.bulk (.list ds) ≤ _; simp only [PyData.bulk]; exact hb⟩
  · exact ⟨by show PyData.canLay0 (.tuple ds) = true; simpa [PyData.canLay0] using a, by show iLe M (.tuple ds) = true; simpa [iLe] using b, by show PyData.depth (.tuple ds) ≤ _; simp only [PyData.depth]; omega, by show PyData.bulk (.tuple ds) ≤ _; simp only [PyData.bulk]; exact hb⟩
theorem tame_parts {t : Bool} {M W D : Nat} {ds : List PyData} (h : Tame M W (D + 1) (sq t ds)) : (∀ d ∈ ds, Tame0 M D d) ∧ sumB ds ≤ W := by
  obtain ⟨a, b, d, e⟩ := h
  rw [← bulkAll_eq]
  cases t
  · change PyData.canLay0 (.list ds) = true at a
    change iLe M (.list ds) = true at b
    change PyData.depth (.list ds) ≤ _ at d
    change PyData.bulk (.list ds) ≤ _ at e
    simp only [PyData.canLay0, iLe, PyData.depth, PyData.bulk] at a b d e
    exact ⟨tame_none a b (by omega), e⟩
  · change PyData.canLay0 (.tuple ds) = true at a
    change iLe M (.tuple ds) = true at b
    change PyData.depth (.tuple ds) ≤ _ at d
    change PyData.bulk (.tuple ds) ≤ _ at e
    simp only [PyData.canLay0, iLe, PyData.depth, PyData.bulk] at a b d e
    exact ⟨tame_none a b (by omega), e⟩
theorem Tame.shaped {M W D : Nat} {d : PyData} (h : Tame M W D d) (hD : D ≤ 20) : SeqAt.shaped d = true := by
  unfold SeqAt.shaped
  rw [h.lay, decide_eq_true (by have := h.dp; omega)]
  rfl
theorem Tame.repr {K : PySem.W.Frag} {M W D : Nat} {d : PyData} {x : L2.V} {H : L2.Hp} {Q : L2.VK} (h : Tame M W D d) (hM : M < 10 ^ 20) (hW : W ≤ 100000) (hD : D ≤ 20) (hd : L2.Dp K H x d) (q : Q (.str d.shown) H) : rReprX K [x] H Q := by
  obtain ⟨h1, h2⟩ := iLe_show hM d h.il
  refine ⟨x, d, rfl, hd, h1, PyData.hasDict_of_canLay d h.lay, by have := h.dp; omega, ?_, q⟩
  have := PyData.shown_le_bulk 21 (by decide) d (PyData.leavesShort_of_canLay0 21 d h.lay h2)
  have e : sizeLine = 16777216 := by decide
  have := h.bk
  omega
theorem sumB_len (ds : List PyData) : ds.length ≤ sumB ds := by
  induction ds with
  | nil => simp
  | cons d ds ih =>
    rw [List.length_cons, sumB_cons]
    omega
theorem Tame.dpt : ∀ {D M W : Nat} {d : PyData}, Tame M W D d → W ≤ 1000 → Hz.dpt D d
  | 0, M, W, d, h, hW => by
    cases d with
    | list ds => have := h.dp; simp [PyData.depth] at this
    | tuple ds => have := h.dp; simp [PyData.depth] at this
    | dict _ => have := h.il; simp [iLe] at this
    | _ => trivial
  | D + 1, M, W, d, h, hW => by
    have key : ∀ (t : Bool) (ds : List PyData), Tame M W (D + 1) (sq t ds) → ds.length ≤ 1000 ∧ ∀ e ∈ ds, Hz.dpt D e := fun t ds h => by
      obtain ⟨a, b⟩ := tame_parts h
      refine ⟨by have := sumB_len ds; omega, fun e he => ?_⟩
      obtain ⟨x, y, z⟩ := a e he
      obtain ⟨p, q, rfl⟩ := List.append_of_mem he
      rw [sumB_append, sumB_cons] at b
      exact Tame.dpt (W := W) ⟨x, y, z, by omega⟩ hW
    cases d with
    | list ds => exact key false ds h
    | tuple ds => exact key true ds h
    | dict _ => have := h.il; simp [iLe] at this
    | _ => trivial
end Hz
set_option Elab.async false
set_option linter.all false
namespace Hz
open PySem PyProof.Rows L2
theorem lay_ints : ∀ ns : List Int, PyData.canLayAll0 (ns.map PyData.int) = true ∧ PyData.depthAll (ns.map PyData.int) = 0
  | [] => ⟨by simp [PyData.canLayAll0], by simp [PyData.depthAll]⟩
  | n :: ns => by
    obtain ⟨a, b⟩ := lay_ints ns
    exact ⟨by simp [PyData.canLayAll0, PyData.canLay0, a], by simp [PyData.depthAll, PyData.depth, b]⟩
theorem shaped_ints (t : Bool) (ns : List Int) : SeqAt.shaped (sq t (ns.map PyData.int)) = true := by
  obtain ⟨a, b⟩ := lay_ints ns
  cases t
  · show SeqAt.shaped (.list _) = true
    unfold SeqAt.shaped
    simp [PyData.canLay0, PyData.depth, a, b]
  · show SeqAt.shaped (.tuple _) = true
    unfold SeqAt.shaped
    simp [PyData.canLay0, PyData.depth, a, b]
theorem shaped_nil (t : Bool) : SeqAt.shaped (sq t []) = true := shaped_ints t []
theorem eqv_nil (ds : List PyData) : PyData.eqv (.list ds) (.list []) = decide (ds.length = 0) := by
  cases ds <;> rfl
theorem eqv_ints (t : Bool) (ns : List Int) : PyData.eqv (sq t (ns.map PyData.int)) (sq t (ns.map PyData.int)) = true := by
  have key : ∀ ns : List Int, PyData.eqvAll (ns.map PyData.int) (ns.map PyData.int) = true := by
    intro ns
    induction ns with
    | nil => simp [PyData.eqvAll]
    | cons n ns ih => simp [PyData.eqvAll, PyData.eqv, ih]
  cases t
  · show PyData.eqv (.list _) (.list _) = true
    simp [PyData.eqv, key]
  · show PyData.eqv (.tuple _) (.tuple _) = true
    simp [PyData.eqv, key]
abbrev duoD (p : Int × Int) : PyData := sq true [.int p.1, .int p.2]
theorem shaped_pairs (ps : List (Int × Int)) : SeqAt.shaped (.list (ps.map duoD)) = true := by
  have key : ∀ ps : List (Int × Int), PyData.canLayAll0 (ps.map duoD) = true ∧ PyData.depthAll (ps.map duoD) ≤ 1 := by
    intro ps
    induction ps with
    | nil => exact ⟨by simp [PyData.canLayAll0], by simp [PyData.depthAll]⟩
    | cons p ps ih =>
      obtain ⟨a, b⟩ := ih
      refine ⟨?_, ?_⟩
      · show PyData.canLayAll0 (.tuple [.int p.1, .int p.2] :: ps.map duoD) = true
        simp [PyData.canLayAll0, PyData.canLay0, a]
      · show PyData.depthAll (.tuple [.int p.1, .int p.2] :: ps.map duoD) ≤ 1
        simp only [PyData.depthAll, PyData.depth]
        omega
  obtain ⟨a, b⟩ := key ps
  unfold SeqAt.shaped
  rw [show PyData.canLay0 (.list (ps.map duoD)) = true by simp only [PyData.canLay0]; exact a, decide_eq_true (show PyData.depth (.list (ps.map duoD)) ≤ 64 by simp only [PyData.depth]; omega)]
  rfl
theorem eqv_pairs (ps : List (Int × Int)) : PyData.eqv (.list (ps.map duoD)) (.list (ps.map duoD)) = true := by
  have key : ∀ ps : List (Int × Int), PyData.eqvAll (ps.map duoD) (ps.map duoD) = true := by
    intro ps
    induction ps with
    | nil => simp [PyData.eqvAll]
    | cons p ps ih =>
      show PyData.eqvAll (.tuple [.int p.1, .int p.2] :: ps.map duoD) (.tuple [.int p.1, .int p.2] :: ps.map duoD) = true
      simp [PyData.eqvAll, PyData.eqv, ih]
  show PyData.eqv (.list _) (.list _) = true
  simp [PyData.eqv, key]
end Hz
set_option Elab.async false
set_option linter.all false
set_option maxRecDepth 100000
set_option maxHeartbeats 4000000
namespace Z10
open PySem PySem.Spec PyProof.Rows L2 Hz
theorem lsb_filter {b st A l h : Int} (p : Nat → Bool) (hp : ∀ i, p i = true ↔ Inb b st A l h i) : ∀ n : Nat, Lsb b st A l h n ((List.range n).filter p).getLast?
  | 0 => fun k hk => by have : (k : Int) < ((0 : Nat) : Int) := hk; omega
  | n + 1 => by
    rw [List.range_succ, List.filter_append]
    by_cases c : p n = true
    · rw [List.filter_cons_of_pos c, List.filter_nil, List.getLast?_append]
      show Lsb b st A l h _ (some n)
      exact ⟨by omega, (hp n).mp c, fun k hk hN => by omega⟩
    · rw [List.filter_cons_of_neg c, List.filter_nil, List.append_nil]
      have ih := lsb_filter p hp n
      have nc : ¬ Inb b st A l h n := fun i => c ((hp n).mpr i)
      generalize ((List.range n).filter p).getLast? = r at ih ⊢
      cases r with
      | none =>
        intro k hk
        by_cases e : (k : Int) < n
        · exact ih k e
        · rw [show k = n by omega]; exact nc
      | some m =>
        refine ⟨by have := ih.1; omega, ih.2.1, fun k h1 h2 => ?_⟩
        by_cases e : (k : Int) < n
        · exact ih.2.2 k h1 e
        · rw [show k = n by omega]; exact nc
section
variable {P : Program} {w : World} {K : PySem.W.Frag} {mg : Str → Option Value} {base : Heap}
local macro_rules | `(tactic| walk_at "un") => `(tactic| dsimp only [tSeq, tIfS, tRet, tAsg, tDrop, tOr, tAnd, tNot, tAndV, tOrV, tNotV, tTest, tB, tOp, tUn, tCB, tCons, tNil, tC, tNext, tIf, tChain, gName, tPar, tPar3, tTup, tLst])
/-- the last one of a list, or None -/
theorem z_due {σ : L2.St} {H : Hp} {D : Addr} {ks : List Nat} {i : Nat} {Q : VK} (hσ : σ[i]? = some (some (.ref D))) (hD : H D = some (.lst (ks.map fun k : Nat => V.int (0 + (k : Int))))) (q : ∀ G, Ex [] H G → Q (optV ks.getLast?) G) :
    tIf (tTest (tOp (rNeD K) (tVar i) (tLst tNil))) (tOp (rIx K) (tVar i) (tUn (rU fun i => .int (-i)) (tC (.int 1)))) (tC .non) σ H Q := by
  walk_at "un"
  refine ⟨_, hσ, Nat.zero_le _, fun p1 hp1 => ?_⟩
  have x3 := Ex.new (B := []) (o := .lst []) hp1
  have eD : upd H p1 (.lst []) D = some (.lst ((ks.map fun i : Nat => (0 : Int) + (i : Int)).map V.int)) := by
    rw [x3.1 _ _ (by simp) hD, List.map_map]; rfl
  refine ⟨.list ((ks.map fun i : Nat => (0 : Int) + (i : Int)).map PyData.int), .list [], .lst (SqL.of eD) (dpa_of_ints _), .lst (SqL.of upd_same) .nil, shaped_ints false _, shaped_nil false, _, rfl, ?_⟩
  rw [eqv_nil, List.length_map, List.length_map]
  rcases List.eq_nil_or_concat ks with rfl | ⟨ks', m, rfl⟩
  · exact iteF (q _ x3)
  · rw [decide_eq_false (by rw [List.length_concat]; omega)]
    refine iteT ⟨_, hσ, 1, rfl, z_ixL (i := -1) (v := .int (0 + (m : Int))) eD ?_ ?_⟩
    · rw [List.concat_eq_append, List.map_append, List.map_append]
      exact atI_last _ _
    · have := q _ x3
      rw [List.concat_eq_append, List.getLast?_append] at this
      have e : optV (((some m : Option Nat)).or ks'.getLast?) = .int m := rfl
      rw [List.getLast?_singleton, e] at this
      show Q (.int (0 + (m : Int))) _
      rw [Int.zero_add]
      exact this
def spPart (K : PySem.W.Frag) (m : Nat) : Sp := fun vs H Q _ => ∃ (b : Addr) (n : Nat), vs = [.ref b] ∧ Bx b n H ∧ n ≤ 10 ^ 10 ∧ ∀ H', Ex [b] H H' → Bx b (n + m) H' → Q (.bl true) H'
theorem ok_small (T : Txt K mg) : FnOk P w K mg base CX0 7 T.a__law_small_right T.d__law_small_right P__law_small_right (spPart K 1000) := by
  have nd := sc__law_small_right.nd
  have G__law_take := ok_T (P := P) (w := w) (base := base) T
  have G__law_same := ok_same (P := P) (w := w) (base := base) T 1
  have G_last_below := ok_last_below (P := P) (w := w) (base := base) T
  refine T.F__law_small_right.ok sc__law_small_right (fun vs H Q E h => ?_) (fun cdv A outer s H vs Q E hr h => ?_)
  · obtain ⟨b, n, rfl, _⟩ := h
    rfl
  · obtain ⟨b, n, rfl, hB, hn, q⟩ := h
    have hr__law_take := hr
    have hr__law_same := hr.mono (show 1 + 1 ≤ 6 by decide)
    have hr_last_below := hr.mono (show 4 ≤ 6 by decide)
    have hn' : n ≤ 10000000000 := hn
    have t50 : (10 : Int) ^ 50 = 100000000000000000000000000000000000000000000000000 := by decide
    have t60 : 10 ^ 60 = 1000000000000000000000000000000000000000000000000000000000000 := by decide
    refine ⟨_, (pss_cons (ps_set (i := 1) nd rfl (Or.inr rfl) (pe_op op_add pe_int (pe_call G__law_take hr__law_take (by rfl) T.m__law_take T.k__law_take T.b__law_take .nil pass0 (pa_cons (pv 0) (pa_cons pe_int pa_nil)))))
      (pss_cons (ps_asg (pe_tup (pa_cons (pe_op op_sub (pe_call G__law_take hr__law_take (by rfl) T.m__law_take T.k__law_take T.b__law_take .nil pass0 (pa_cons (pv 0) (pa_cons pe_int pa_nil))) pe_int) (pa_cons (pe_op op_sub (pe_call G__law_take hr__law_take (by rfl) T.m__law_take T.k__law_take T.b__law_take .nil pass0 (pa_cons (pv 0) (pa_cons pe_int pa_nil))) pe_int) (pa_cons (pe_call G__law_take hr__law_take (by rfl) T.m__law_take T.k__law_take T.b__law_take .nil pass0 (pa_cons (pv 0) (pa_cons (pv 1) pa_nil))) pa_nil)))) (pg_tupK K 3 (by rfl) (pgs_cons (pg_name (i := 2) nd rfl (Or.inr rfl)) (pgs_cons (pg_name (i := 3) nd rfl (Or.inr rfl)) (pgs_cons (pg_name (i := 4) nd rfl (Or.inr rfl)) pgs_nil)))))
      (pss_cons (ps_set (i := 5) nd rfl (Or.inr rfl) (pe_op op_add (pv 4) (pe_call G__law_take hr__law_take (by rfl) T.m__law_take T.k__law_take T.b__law_take .nil pass0 (pa_cons (pv 0) (pa_cons (pe_op op_sub (pv 1) (pv 4)) pa_nil)))))
      (pss_cons (ps_for PassesOwn.never rfl (pi_tupK K (pe_tup (pa_cons pe_int (pa_cons pe_int (pa_cons (pe_call G__law_take hr__law_take (by rfl) T.m__law_take T.k__law_take T.b__law_take .nil pass0 (pa_cons (pv 0) (pa_cons pe_int pa_nil))) (pa_cons (pe_op op_mul pe_int (pv 1)) pa_nil)))))) (pg_name (i := 6) nd rfl (Or.inl rfl)) (pss_cons (ps_setLc (i := 7) (own := [("_law_k", 10)]) (by rfl) nd rfl rfl (sw_true rfl rfl rfl (by decide +kernel)) (pi_range1 (by rfl) T.z_range (pa_cons (pv 6) pa_nil)) (blkOk_by (N := N__law_small_right) (own := [("_law_k", 10)]) (sc := defScope s__law_small_right) (by decide +kernel)) (fun _ _ _ _ _ => pg_name (i := 10) nd rfl (Or.inl rfl)) (fun _ _ _ _ _ => (pts_one (pt_chain op_le op_le (pv 4) (pe_op op_mod (pe_op op_add (pv 2) (pe_op op_mul (pv 10) (pv 3))) (pv 1)) (pv 5)))) (fun _ _ _ _ _ => (pv 10)))
      (pss_cons (ps_set (i := 8) nd rfl (Or.inl rfl) (pe_ifExp (pt_cmpR (neDK K hr.units) (pv 7) (pe_lst pa_nil) (nomark _)) (pe_ix (ixK K) (pv 7) (pe_un un_neg pe_int) (fun _ _ => rfl)) pe_non))
      (pss_cons (ps_set (i := 9) nd rfl (Or.inl rfl) (pe_lst (pa_cons (pe_call G_last_below hr_last_below (by rfl) T.m_last_below T.k_last_below T.b_last_below .nil pass0 (pa_cons (pv 2) (pa_cons (pv 3) (pa_cons (pv 1) (pa_cons (pv 4) (pa_cons (pv 5) (pa_cons (pv 6) pa_nil))))))) pa_nil)))
      (pss_cons (ps_expr (pe_bm PySem.F.plainAttrs_list PySem.F.slot_list_append PySem.F.type_list_append mt_append (pv 9) (pa_cons (pe_callK0 G_last_below hr_last_below (by rfl) T.m_last_below T.k_last_below T.kb_last_below_many_high_low_around_step_begin pass0 (pk_cons (pv 6) (pk_cons (pv 5) (pk_cons (pv 4) (pk_cons (pv 1) (pk_cons (pv 3) (pk_cons (pv 2) pk_nil))))))) pa_nil)))
      (pss_one (ps_if (pt_not (pt_val (pe_call G__law_same hr__law_same (by rfl) T.m__law_same T.k__law_same T.b__law_same .nil pass0 (pa_cons (pv 9) (pa_cons (pe_lst (pa_cons (pv 8) (pa_cons (pv 8) pa_nil))) pa_nil))))) (pss_one (ps_ret pe_bl)) pss_nil)))))))
      (pss_one (ps_ret pe_bl)))))), ?_⟩
    walk_at "un"
    refine ⟨_, rfl, b, 40, _, rfl, hB, by omega, by decide, by decide, fun r1 H1 r10 r11 x1 B1 => ⟨_, _, rfl, rfl, ?_⟩⟩
    walk_at "un"
    generalize hring : 1 + r1 = N
    refine ⟨_, rfl, b, 99, _, rfl, B1, by omega, by decide, by decide, fun r2 H2 r20 r21 x2 B2 => ⟨_, _, rfl, rfl, ?_⟩⟩
    refine ⟨_, rfl, b, 99, _, rfl, B2, by omega, by decide, by decide, fun r3 H3 r30 r31 x3 B3 => ⟨_, _, rfl, rfl, ?_⟩⟩
    refine ⟨_, rfl, _, rfl, b, N, _, rfl, B3, by omega, by omega, by omega, fun near H4 r40 r41 x4 B4 => ⟨(by show 3 ≤ sizeLine; decide), fun p hp => ?_⟩⟩
    walk_at "un"
    generalize hm : r2 - 50 = mine
    generalize hs : r3 - 50 = stride
    have x5 := Ex.new (B := []) (o := .tup [.int mine, .int stride, .int near]) hp
    refine ⟨p, _, rfl, SqT.of upd_same, rfl, _, _, rfl, _, _, rfl, _, _, rfl, rfl, ?_⟩
    have B5 := B4.ex x5 (by simp)
    have x05 := ((((x1.trans x2).trans x3).trans x4).trans (Ex.nil x5))
    refine ⟨_, rfl, _, rfl, _, rfl, _, rfl, _, _, rfl, rfl, b, N - near, _, rfl, B5, by omega, by omega, by omega, fun r5 H6 r50 r51 x6 B6 => ⟨_, _, rfl, rfl, ?_⟩⟩
    walk_at "un"
    generalize hfar : near + r5 = far
    refine ⟨_, rfl, b, 90, _, rfl, B6, by omega, by decide, by decide, fun r6 H7 r60 r61 x7 B7 => ⟨_, rfl, _, _, rfl, rfl, .inl ⟨by omega, by omega⟩, (by show 4 ≤ sizeLine; decide), fun q4 hq4 => ?_⟩⟩
    have x8 := Ex.new (B := []) (o := .tup [.int 0, .int 1, .int r6, .int (2 * N)]) hq4
    have x08 := ((x05.trans x6).trans x7).trans (Ex.nil x8)
    have B8 := B7.ex x8 (by simp)
    refine ⟨q4, rfl, ⟨_, SqT.of upd_same⟩, for_tup (xs := [.int 0, .int 1, .int r6, .int (2 * N)]) (fun j σ H' => ∃ u6 u7 u8 u9 : Option V, σ = [some (.ref b), some (.int N), some (.int mine), some (.int stride), some (.int near), some (.int far), u6, u7, u8, u9, none] ∧ Ex [] (upd H7 q4 (.tup [.int 0, .int 1, .int r6, .int (2 * N)])) H')
      ⟨_, _, _, _, rfl, Ex.refl _ _⟩ (fun j σ H' _ ⟨_, _, _, _, _, e⟩ => SqT.of (e.1 _ _ (by simp) upd_same)) (fun j x σ H' hx hP => ?_) (fun σ H' hP => ?_)⟩
    · obtain ⟨u6, u7, u8, u9, rfl, xe⟩ := hP
      have hx' : ∃ c : Nat, x = .int c ∧ c ≤ 100 := by
        have hm := List.mem_of_getElem? hx
        simp only [List.mem_cons, List.not_mem_nil, or_false] at hm
        rcases hm with rfl | rfl | rfl | rfl
        · exact ⟨0, rfl, by decide⟩
        · exact ⟨1, rfl, by decide⟩
        · exact ⟨r6.toNat, by rw [Int.toNat_of_nonneg r60], by omega⟩
        · exact ⟨(2 * N).toNat, by rw [Int.toNat_of_nonneg (by omega)], by omega⟩
      obtain ⟨c, rfl, hc⟩ := hx'
      walk_at "un"
      have hN0 : 0 < N := by omega
      refine z_lcRF (n := c) (lo := 0) (fun R r => ⟨_, rfl, c, rfl, by omega, by omega, r _ (Ex.refl _ _)⟩) (by omega) (fun i => decide (near ≤ (mine + (0 + (i : Int)) * stride) % N) && decide ((mine + (0 + (i : Int)) * stride) % N ≤ far)) (fun i => .int (0 + (i : Int))) (fun Hb xb i hi D H2 hD' e1 tD N' M hN hM => ?_) (fun Hb xb D H2 hD' hz e1 => ?_)
      · refine ⟨rfl, _, rfl, _, rfl, _, rfl, _, rfl, _, _, rfl, rfl, .inl ⟨by omega, by omega⟩, _, _, rfl, rfl, _, rfl, _, _, rfl, rfl, hN0, _, _, rfl, rfl, _, rfl, ?_⟩
        refine ite2 (fun c1 => ⟨_, rfl, _, _, rfl, rfl, _, rfl, ite2 (fun c2 => ⟨_, rfl, hN ?_ _ (Ex.refl _ _)⟩) (fun c2 => hM ?_ _ (Ex.refl _ _))⟩) (fun c1 => ⟨_, rfl, iteF (hM ?_ _ (Ex.refl _ _))⟩)
        · rw [Bool.and_eq_true]; exact ⟨c1, c2⟩
        · rw [Bool.eq_false_iff.mpr c2, Bool.and_false]
        · rw [Bool.eq_false_iff.mpr c1, Bool.false_and]
      have hp : ∀ i : Nat, (decide (near ≤ (mine + (0 + (i : Int)) * stride) % N) && decide ((mine + (0 + (i : Int)) * stride) % N ≤ far)) = true ↔ Inb mine stride N near far i := fun i => by
        rw [Bool.and_eq_true, decide_eq_true_iff, decide_eq_true_iff, Int.zero_add]
        exact Iff.rfl
      have hl := lsb_filter _ hp c
      generalize (List.range c).filter (fun i : Nat => decide (near ≤ (mine + (0 + (i : Int)) * stride) % N) && decide ((mine + (0 + (i : Int)) * stride) % N ≤ far)) = ks at hl hz
      have x2 := xb.trans e1
      refine z_due (i := 7) (D := D) rfl hz fun G y1 => ?_
      generalize ks.getLast? = r at hl
      have bN : ∀ z : Int, 0 ≤ z → z ≤ 1000 → z ≤ 10 ^ 50 := fun z _ h => by omega
      refine ⟨_, rfl, _, rfl, _, rfl, _, rfl, _, rfl, _, rfl, mine, stride, N, near, far, c, rfl, by omega, by omega, by omega, by omega, by omega, by omega, by omega, by omega, fun r1 G1 f1 y2 => ⟨(by show 1 ≤ sizeLine; decide), fun L hL => ?_⟩⟩
      obtain rfl := lsb_uniq f1 hl
      have y3 := Ex.new (B := []) (o := .lst [optV r1]) hL
      have L0 : H' L = none := ((x2.trans y1).trans y2).free hL
      refine ⟨_, rfl, .inl ⟨rfl, _, SqL.of upd_same⟩, _, rfl, _, rfl, _, rfl, _, rfl, _, rfl, _, rfl, mine, stride, N, near, far, c, rfl, by omega, by omega, by omega, by omega, by omega, by omega, by omega, by omega, fun r2 G2 f2 y4 => ?_⟩
      obtain rfl := lsb_uniq f2 hl
      refine ⟨L, _, _, rfl, rfl, y4.1 _ _ (by simp) upd_same, (by show 1 < sizeLine; decide), ?_⟩
      have y5 : Ex [] H' (upd G2 L (.lst ([optV r2] ++ [optV r2]))) := ((((x2.trans y1).trans y2).trans y3).trans y4).mutNew' L0
      refine ⟨_, rfl, _, rfl, _, rfl, (by show 2 ≤ sizeLine; decide), fun p2 hp2 => ?_⟩
      have y6 := Ex.new (B := []) (o := .lst [optV r2, optV r2]) hp2
      have two : ∀ {G : Hp} {a : Addr}, G a = some (.lst [optV r2, optV r2]) → Dp K G (.ref a) (.list [optD r2, optD r2]) := fun e => .lst (SqL.of e) (.cons (dp_opt _) (.cons (dp_opt _) .nil))
      refine ⟨.ref L, .ref p2, .list [optD r2, optD r2], rfl, two (y6.1 _ _ (by simp) upd_same), two upd_same, ⟨by show 2 ≤ 1000; decide, fun e he => ?_⟩, fun G3 y7 => ⟨_, rfl, iteF ⟨_, _, _, _, rfl, xe.trans ((y5.trans y6).trans y7)⟩⟩⟩
      simp only [List.mem_cons, List.not_mem_nil, or_false] at he
      rcases he with rfl | rfl <;> cases r2 <;> trivial
    · obtain ⟨u6, u7, u8, u9, rfl, xe⟩ := hP
      exact q H' (x08.trans (Ex.nil xe)) ((B8.ex xe (by simp)).mono (by omega))
theorem ok_great (T : Txt K mg) : FnOk P w K mg base CX0 8 T.a__law_great_right T.d__law_great_right P__law_great_right (spPart K 1000) := by
  have nd := sc__law_great_right.nd
  have G__law_take := ok_T (P := P) (w := w) (base := base) T
  have G__law_of := ok_of (P := P) (w := w) (base := base) T
  have G__law_hits := ok_hits (P := P) (w := w) (base := base) T
  have G_last_below := ok_last_below (P := P) (w := w) (base := base) T
  refine T.F__law_great_right.ok sc__law_great_right (fun vs H Q E h => ?_) (fun cdv A outer s H vs Q E hr h => ?_)
  · obtain ⟨b, n, rfl, _⟩ := h
    rfl
  · obtain ⟨b, n, rfl, hB, hn, q⟩ := h
    have hr__law_of := hr
    have hr__law_take := hr.mono (show 6 ≤ 7 by decide)
    have hr__law_hits := hr.mono (show 2 ≤ 7 by decide)
    have hr_last_below := hr.mono (show 4 ≤ 7 by decide)
    have hn' : n ≤ 10000000000 := hn
    have t3 : (10 : Int) ^ Int.toNat 3 = 1000 := by decide
    have t13 : (10 : Int) ^ Int.toNat 13 = 10000000000000 := by decide
    have t15 : (10 : Int) ^ Int.toNat 15 = 1000000000000000 := by decide
    have t38 : (10 : Int) ^ Int.toNat 38 = 100000000000000000000000000000000000000 := by decide
    have t40 : (10 : Int) ^ Int.toNat 40 = 10000000000000000000000000000000000000000 := by decide
    have t41 : (10 : Int) ^ 41 = 100000000000000000000000000000000000000000 := by decide
    have t42 : (10 : Int) ^ 42 = 1000000000000000000000000000000000000000000 := by decide
    have t50 : (10 : Int) ^ 50 = 100000000000000000000000000000000000000000000000000 := by decide
    have t60 : 10 ^ 60 = 1000000000000000000000000000000000000000000000000000000000000 := by decide
    have t60i : (10 : Int) ^ 60 = 1000000000000000000000000000000000000000000000000000000000000 := by decide
    refine ⟨_, (pss_cons (ps_set (i := 1) nd rfl (Or.inl rfl) (pe_op op_add pe_int (pe_call G__law_take hr__law_take (by rfl) T.m__law_take T.k__law_take T.b__law_take .nil pass0 (pa_cons (pv 0) (pa_cons (pe_call G__law_of hr__law_of (by rfl) T.m__law_of T.k__law_of T.b__law_of .nil pass0 (pa_cons (pv 0) (pa_cons (pe_lst (pa_cons (pe_op op_pow pe_int pe_int) (pa_cons (pe_op op_pow pe_int pe_int) (pa_cons (pe_op op_pow pe_int pe_int) pa_nil)))) pa_nil))) pa_nil)))))
      (pss_cons (ps_par3 (i := 2) (j := 3) (l := 4) (by rfl) nd rfl rfl rfl (by decide) (by decide) (by decide) rfl rfl rfl (pa_cons (pe_call G__law_take hr__law_take (by rfl) T.m__law_take T.k__law_take T.b__law_take .nil pass0 (pa_cons (pv 0) (pa_cons (pv 1) pa_nil))) (pa_cons (pe_call G__law_take hr__law_take (by rfl) T.m__law_take T.k__law_take T.b__law_take .nil pass0 (pa_cons (pv 0) (pa_cons (pv 1) pa_nil))) (pa_cons (pe_call G__law_take hr__law_take (by rfl) T.m__law_take T.k__law_take T.b__law_take .nil pass0 (pa_cons (pv 0) (pa_cons (pv 1) pa_nil))) pa_nil))) (by rfl))
      (pss_cons (ps_set (i := 5) nd rfl (Or.inl rfl) (pe_callB (call_min2 rfl) (by rfl) T.z_min (by decide +kernel) (pa_cons (pe_op op_sub (pv 1) pe_int) (pa_cons (pe_op op_add (pv 4) (pe_call G__law_of hr__law_of (by rfl) T.m__law_of T.k__law_of T.b__law_of .nil pass0 (pa_cons (pv 0) (pa_cons (pe_lst (pa_cons (pe_call G__law_take hr__law_take (by rfl) T.m__law_take T.k__law_take T.b__law_take .nil pass0 (pa_cons (pv 0) (pa_cons pe_int pa_nil))) (pa_cons (pe_call G__law_take hr__law_take (by rfl) T.m__law_take T.k__law_take T.b__law_take .nil pass0 (pa_cons (pv 0) (pa_cons (pv 1) pa_nil))) (pa_cons (pe_op op_fdivW (pv 1) pe_int) pa_nil)))) pa_nil)))) pa_nil))))
      (pss_cons (ps_set (i := 6) nd rfl (Or.inl rfl) (pe_call G__law_of hr__law_of (by rfl) T.m__law_of T.k__law_of T.b__law_of .nil pass0 (pa_cons (pv 0) (pa_cons (pe_lst (pa_cons (pe_op op_add pe_int (pe_call G__law_take hr__law_take (by rfl) T.m__law_take T.k__law_take T.b__law_take .nil pass0 (pa_cons (pv 0) (pa_cons pe_int pa_nil)))) (pa_cons (pe_op op_add pe_int (pe_call G__law_take hr__law_take (by rfl) T.m__law_take T.k__law_take T.b__law_take .nil pass0 (pa_cons (pv 0) (pa_cons (pe_op op_pow pe_int pe_int) pa_nil)))) (pa_cons (pe_op op_pow pe_int pe_int) pa_nil)))) pa_nil))))
      (pss_cons (ps_par (i := 7) (j := 8) (by rfl) nd rfl rfl (by decide) rfl rfl (pa_cons (pe_call G_last_below hr_last_below (by rfl) T.m_last_below T.k_last_below T.b_last_below .nil pass0 (pa_cons (pv 2) (pa_cons (pv 3) (pa_cons (pv 1) (pa_cons (pv 4) (pa_cons (pv 5) (pa_cons (pv 6) pa_nil))))))) (pa_cons (pe_call G__law_hits hr__law_hits (by rfl) T.m__law_hits T.k__law_hits T.b__law_hits .nil pass0 (pa_cons (pv 6) (pa_cons (pv 2) (pa_cons (pv 3) (pa_cons (pv 1) (pa_cons (pv 4) (pa_cons (pv 5) pa_nil))))))) pa_nil)) (by rfl))
      (pss_cons (ps_if (pt_cmpR op_isN (pv 7) pe_non (nomark _)) (pss_one (ps_ret (pe_cmpR op_eq (pv 8) pe_int (nomark _)))) pss_nil)
      (pss_cons (ps_if (PW.pt (pw_or (pt_not (pt_chain op_le op_lt pe_int (pv 7) (pv 6))) (pw_or1 (pt_not (pt_chain op_le op_le (pv 4) (pe_op op_mod (pe_op op_add (pv 2) (pe_op op_mulW (pv 7) (pv 3))) (pv 1)) (pv 5)))))) (pss_one (ps_ret pe_bl)) pss_nil)
      (pss_one (ps_ret (pe_cmpR op_eq (pe_call G__law_hits hr__law_hits (by rfl) T.m__law_hits T.k__law_hits T.b__law_hits .nil pass0 (pa_cons (pe_op op_add (pv 7) pe_int) (pa_cons (pv 2) (pa_cons (pv 3) (pa_cons (pv 1) (pa_cons (pv 4) (pa_cons (pv 5) pa_nil))))))) (pv 8) (nomark _))))))))))), ?_⟩
    walk_at "un"
    refine ⟨_, rfl, _, rfl, _, _, rfl, rfl, ⟨by decide, by decide, by decide⟩, _, _, rfl, rfl, ⟨by decide, by decide, by decide⟩, _, _, rfl, rfl, ⟨by decide, by decide, by decide⟩, (by show 3 ≤ sizeLine; decide), fun p hp => ?_⟩
    have y1 := Ex.new (B := []) (o := .lst [.int (10 ^ Int.toNat 3), .int (10 ^ Int.toNat 13), .int (10 ^ Int.toNat 38)]) hp
    refine ⟨b, p, _, _, rfl, hB.ex y1 (by simp), by omega, sq_new hB hp, (by show 1 ≤ 3; decide), (by show 3 ≤ 1000; decide), fun v H1 hv x1 B1 => ?_⟩
    have hv' : ∃ z : Int, v = .int z ∧ 1 ≤ z ∧ z ≤ 100000000000000000000000000000000000000 := by
      simp only [List.mem_cons, List.not_mem_nil, or_false] at hv
      rcases hv with rfl | rfl | rfl
      · exact ⟨_, rfl, by decide, by decide⟩
      · exact ⟨_, rfl, by decide, by decide⟩
      · exact ⟨_, rfl, by decide, by decide⟩
    obtain ⟨z, rfl, z0, z1⟩ := hv'
    refine ⟨b, z, _, rfl, B1, by omega, z0, by omega, fun r1 H2 r10 r11 x2 B2 => ⟨_, _, rfl, rfl, ?_⟩⟩
    walk_at "un"
    have x02 := ((Ex.nil (B := [b]) y1).trans x1).trans x2
    generalize hN : 2 + r1 = N
    have hN2 : N ≤ 200000000000000000000000000000000000000 := by omega
    refine ⟨_, rfl, _, rfl, b, N, _, rfl, B2, by omega, by omega, by omega, fun mine H3 m0 m1 x3 B3 => ?_⟩
    refine ⟨_, rfl, _, rfl, b, N, _, rfl, B3, by omega, by omega, by omega, fun stride H4 s0 s1 x4 B4 => ?_⟩
    refine ⟨_, rfl, _, rfl, b, N, _, rfl, B4, by omega, by omega, by omega, fun near H5 n0 n1 x5 B5 => ⟨_, _, _, rfl, ?_⟩⟩
    refine ⟨_, rfl, _, _, rfl, rfl, _, rfl, _, rfl, _, rfl, b, 9, _, rfl, B5, by omega, by decide, by decide, fun r6 H6 r60 r61 x6 B6 => ?_⟩
    refine ⟨_, rfl, _, rfl, b, N, _, rfl, B6, by omega, by omega, by omega, fun r7 H7 r70 r71 x7 B7 => ?_⟩
    refine ⟨_, rfl, _, _, rfl, rfl, divw_of (by decide) (by decide), (by show 3 ≤ sizeLine; decide), fun p2 hp2 => ?_⟩
    have y8 := Ex.new (B := []) (o := .lst [.int r6, .int r7, .int (N / 1000)]) hp2
    refine ⟨b, p2, _, _, rfl, B7.ex y8 (by simp), by omega, sq_new B7 hp2, (by show 1 ≤ 3; decide), (by show 3 ≤ 1000; decide), fun v2 H8 hv2 x8 B8 => ?_⟩
    have hv2' : ∃ z : Int, v2 = .int z ∧ 0 ≤ z := by
      simp only [List.mem_cons, List.not_mem_nil, or_false] at hv2
      rcases hv2 with rfl | rfl | rfl
      · exact ⟨_, rfl, by omega⟩
      · exact ⟨_, rfl, by omega⟩
      · exact ⟨_, rfl, Int.ediv_nonneg (by omega) (by decide)⟩
    obtain ⟨zf, rfl, zf0⟩ := hv2'
    have x08 := (((((x02.trans x3).trans x4).trans x5).trans x6).trans x7).trans ((Ex.nil (B := [b]) y8).trans x8)
    refine ⟨_, _, rfl, rfl, _, _, rfl, ?_⟩
    generalize hfar : (if near + zf < N - 1 then near + zf else N - 1) = far
    have hf1 : near ≤ far ∧ far < N := by rw [← hfar]; split <;> omega
    obtain ⟨hf1, hf2⟩ := hf1
    refine ⟨_, rfl, _, rfl, b, 999, _, rfl, B8, by omega, by decide, by decide, fun r9 H9 r90 r91 x9 B9 => ⟨_, _, rfl, rfl, ?_⟩⟩
    refine ⟨_, rfl, _, _, rfl, rfl, ⟨by decide, by decide, by decide⟩, b, _, _, rfl, B9, by omega, by decide, by decide, fun rA H10 rA0 rA1 xA BA => ⟨_, _, rfl, rfl, ?_⟩⟩
    refine ⟨_, _, rfl, rfl, ⟨by decide, by decide, by decide⟩, (by show 3 ≤ sizeLine; decide), fun p3 hp3 => ?_⟩
    have yB := Ex.new (B := []) (o := .lst [.int (1 + r9), .int (1 + rA), .int (10 ^ Int.toNat 40)]) hp3
    refine ⟨b, p3, _, _, rfl, BA.ex yB (by simp), by omega, sq_new BA hp3, (by show 1 ≤ 3; decide), (by show 3 ≤ 1000; decide), fun v3 H11 hv3 xB BB => ?_⟩
    rw [t15] at rA1
    have hv3' : ∃ c : Nat, v3 = .int c ∧ (c : Int) ≤ 10000000000000000000000000000000000000000 := by
      simp only [List.mem_cons, List.not_mem_nil, or_false] at hv3
      rcases hv3 with rfl | rfl | rfl
      · exact ⟨(1 + r9).toNat, by rw [Int.toNat_of_nonneg (by omega)], by omega⟩
      · exact ⟨(1 + rA).toNat, by rw [Int.toNat_of_nonneg (by omega)], by omega⟩
      · exact ⟨10 ^ 40, by rw [t40]; rfl, by decide⟩
    obtain ⟨c, rfl, hc⟩ := hv3'
    have x11 := ((x08.trans x9).trans xA).trans ((Ex.nil (B := [b]) yB).trans xB)
    refine ⟨_, rfl, _, rfl, _, rfl, _, rfl, _, rfl, _, rfl, mine, stride, N, near, far, c, rfl, by omega, by omega, by omega, hf1, hf2, by omega, by omega, by omega, fun r H12 f x12 => ?_⟩
    refine ⟨_, rfl, _, rfl, _, rfl, _, rfl, _, rfl, _, rfl, c, mine, stride, N, near, far, rfl, by omega, by omega, by omega, by omega, hf1, hf2, _, _, rfl, ?_⟩
    have x12' := x11.trans (Ex.nil x12)
    have B12 := BB.ex x12 (by simp)
    have fin : ∀ bo : Bool, bo = true → Q (.bl bo) H12 := fun bo e => by rw [e]; exact q H12 x12' (B12.mono (by omega))
    refine ⟨_, rfl, ?_⟩
    cases r with
    | none =>
      refine ⟨rfl, true, by rw [show optV none = V.non from rfl, decide_eq_true rfl], iteT ⟨_, rfl, rfl, fin _ ?_⟩⟩
      rw [hits_zero.mpr fun k hk => f k (by omega)]
      exact decide_eq_true rfl
    | some m =>
      refine ⟨rfl, false, by rw [decide_eq_false (by show ¬ V.int (m : Int) = V.non; simp)], iteF ?_⟩
      obtain ⟨f1, f2, f3⟩ := f
      refine ⟨_, rfl, 0, m, rfl, rfl, _, rfl, ?_⟩
      rw [decide_eq_true (show (0 : Int) ≤ (m : Int) by omega)]
      refine iteT ⟨_, rfl, m, c, rfl, rfl, _, rfl, ?_⟩
      rw [decide_eq_true (show (m : Int) < c from f1)]
      refine iteF ?_
      refine ⟨_, rfl, _, rfl, _, rfl, _, rfl, m, stride, rfl, rfl, mulw_of (by omega) (by omega), _, _, rfl, rfl, _, rfl, _, _, rfl, rfl, (by show (0 : Int) < N; omega), _, _, rfl, rfl, _, rfl, ?_⟩
      rw [decide_eq_true (show near ≤ (mine + (m : Int) * stride) % N from f2.1)]
      refine iteT ⟨_, rfl, _, _, rfl, rfl, _, rfl, ?_⟩
      rw [decide_eq_true (show (mine + (m : Int) * stride) % N ≤ far from f2.2)]
      refine iteF ?_
      refine ⟨_, rfl, m, 1, rfl, rfl, _, rfl, _, rfl, _, rfl, _, rfl, _, rfl, m + 1, mine, stride, N, near, far, rfl, by omega, by omega, by omega, by omega, hf1, hf2, _, rfl, rfl, fin _ ?_⟩
      rw [hits_ext (n := m + 1) (m := c) (by omega) fun k h1 h2 => f3 k (by omega) (by omega)]
      exact decide_eq_true rfl
/-- both parts, six times -/
def spRight (K : PySem.W.Frag) : Sp := fun vs H Q _ => ∃ (b : Addr) (n : Nat), vs = [.ref b] ∧ Bx b n H ∧ n ≤ 10 ^ 9 ∧ ∀ H', Ex [b] H H' → Q (.bl true) H'
theorem ok_right (T : Txt K mg) : FnOk P w K mg base CX0 9 T.a__law_right T.d__law_right P__law_right (spRight K) := by
  have nd := sc__law_right.nd
  have G__law_small_right := ok_small (P := P) (w := w) (base := base) T
  have G__law_great_right := ok_great (P := P) (w := w) (base := base) T
  refine T.F__law_right.ok sc__law_right (fun vs H Q E h => ?_) (fun cdv A outer s H vs Q E hr h => ?_)
  · obtain ⟨b, n, rfl, _⟩ := h
    rfl
  · obtain ⟨b, n, rfl, hB, hn, q⟩ := h
    have hr__law_great_right := hr
    have hr__law_small_right := hr.mono (show 7 ≤ 8 by decide)
    have hn' : n ≤ 1000000000 := hn
    refine ⟨_, (pss_one (ps_ret (pe_callB (allK K) (by rfl) T.z_all (by decide +kernel) (pa_cons (pe_lc (own := [("_law_again", 1)]) (by rfl) nd (pi_range1 (by rfl) T.z_range (pa_cons pe_int pa_nil)) (blkOk_by (N := N__law_right) (own := [("_law_again", 1)]) (sc := defScope s__law_right) (by decide +kernel)) (fun _ _ _ _ _ => pg_name (i := 1) nd rfl (Or.inl rfl)) (fun _ _ _ _ _ => pts_nil) (fun _ _ _ _ _ => (pe_and (pe_call G__law_small_right hr__law_small_right (by rfl) T.m__law_small_right T.k__law_small_right T.b__law_small_right .nil pass0 (pa_cons (pv 0) pa_nil)) (pe_one (pe_call G__law_great_right hr__law_great_right (by rfl) T.m__law_great_right T.k__law_great_right T.b__law_great_right .nil pass0 (pa_cons (pv 0) pa_nil)))))) pa_nil)))), ?_⟩
    walk_at "un"
    refine z_lcR (B := [b]) (C := [b]) (lo := 0) (n := 6) (fun R r => ⟨_, rfl, by decide, by decide, r _ (Ex.refl _ _)⟩) (fun _ z _ => z = .bl true) (fun i H' => Bx b (n + 2000 * i) H')
      (fun H1 x1 => ⟨⟨fun c hc => ?_, fun _ h => h, fun _ _ _ _ _ h => h, fun D j Ha Hb hD' nB e J => ?_, hB.ex x1 (by simp), by decide⟩, fun i x hi hx D H' hD' nB e1 J tD N hN => ?_, fun D zs H' hD' hz lz rz e1 J => ?_⟩)
    · obtain rfl : c = b := by simpa using hc
      exact fun z => hB.there (x1.2 _ z)
    · exact Bx.ex J e (by simp at nB ⊢; exact fun z => nB z.symm)
    · have J' : Bx b (n + 2000 * i) H' := J
      refine ⟨rfl, _, rfl, b, _, rfl, J', by show _ ≤ 10000000000; omega, fun H2 x2 B2 => ⟨_, rfl, iteT ⟨_, rfl, b, _, rfl, B2, by show _ ≤ 10000000000; omega, fun H3 x3 B3 => ?_⟩⟩⟩
      exact hN _ H3 (x2.trans x3) rfl (B3.mono (by omega))
    · have ez : zs = (List.replicate 6 true).map V.bl := by
        apply List.ext_getElem?
        intro j
        rw [List.map_replicate]
        by_cases c : j < zs.length
        · rw [List.getElem?_eq_getElem c, rz j _ (List.getElem?_eq_getElem c), List.getElem?_replicate, if_pos (by omega)]
        · rw [List.getElem?_eq_none (by omega), List.getElem?_eq_none (by rw [List.length_replicate]; omega)]
      refine ⟨D, List.replicate 6 true, rfl, SqL.of (by rw [hz, ← ez]), ?_⟩
      exact q H' ((Ex.nil x1).trans e1)
end
end Z10
set_option Elab.async false
set_option linter.all false
set_option maxRecDepth 100000
set_option maxHeartbeats 4000000
namespace Z10
open PySem PySem.Spec PyProof.Rows L2 Hz
section
variable {P : Program} {w : World} {K : PySem.W.Frag} {mg : Str → Option Value} {base : Heap}
local macro_rules | `(tactic| walk_at "un") => `(tactic| dsimp only [tSeq, tIfS, tRet, tAsg, tDrop, tOr, tAnd, tNot, tAndV, tOrV, tNotV, tTest, tB, tOp, tUn, tCB, tCons, tNil, tC, tNext, tIf, tChain, gName, tPar, tPar3, tTup, tLst])
def lawLevel : Nat := 10
def spLaw (K : PySem.W.Frag) : Sp := fun vs H Q _ => ∃ (a : Addr) (ns : List Int), vs = [.ref a] ∧ SqL K H a (ns.map V.int) ∧ ns.length ≤ 63 ∧ ∀ H', Q (.bl true) H'
theorem ok_law (T : Txt K mg) : FnOk P w K mg base CX0 lawLevel T.a_law T.d_law P_law (spLaw K) := by
  have nd := sc_law.nd
  have G__law_folded := ok_folded (P := P) (w := w) (base := base) T
  have G__law_box := ok_box (P := P) (w := w) (base := base) T
  have G__law_right := ok_right (P := P) (w := w) (base := base) T
  refine T.F_law.ok sc_law (fun vs H Q E h => ?_) (fun cdv A outer s H vs Q E hr h => ?_)
  · obtain ⟨a, ns, rfl, _⟩ := h
    rfl
  · obtain ⟨a, ns, rfl, hS, hn, q⟩ := h
    have hr__law_folded := hr.mono (show 1 ≤ 9 by decide)
    have hr__law_box := hr.mono (show 1 ≤ 9 by decide)
    have hr__law_right := hr
    refine ⟨_, (pss_cons (ps_set (i := 1) nd rfl (Or.inr rfl) (pe_call G__law_folded hr__law_folded (by rfl) T.m__law_folded T.k__law_folded T.b__law_folded .nil pass0 (pa_cons (pv 0) (pa_cons pe_int pa_nil))))
      (pss_one (ps_ret (pe_callB (allK K) (by rfl) T.z_all (by decide +kernel) (pa_cons (pe_lc (own := [("_law_k", 2)]) (by rfl) nd (pi_range1 (by rfl) T.z_range (pa_cons (pe_callB (call_max2 rfl) (by rfl) T.z_max (by decide +kernel) (pa_cons pe_int (pa_cons (pe_callB (lenK K) (by rfl) T.z_len (by decide +kernel) (pa_cons (pv 1) pa_nil)) pa_nil))) pa_nil)) (blkOk_by (N := N_law) (own := [("_law_k", 2)]) (sc := defScope s_law) (by decide +kernel)) (fun _ _ _ _ _ => pg_name (i := 2) nd rfl (Or.inl rfl)) (fun _ _ _ _ _ => pts_nil) (fun _ _ _ _ _ => (pe_call G__law_right hr__law_right (by rfl) T.m__law_right T.k__law_right T.b__law_right .nil pass0 (pa_cons (pe_call G__law_box hr__law_box (by rfl) T.m__law_box T.k__law_box T.b__law_box .nil pass0 (pa_cons (pv 1) (pa_cons (pv 2) pa_nil))) pa_nil)))) pa_nil))))), ?_⟩
    walk_at "un"
    refine ⟨_, rfl, a, ns, 3, rfl, hS, hn, by decide, by decide, fun p H1 ms hp x1 hm lm => ?_⟩
    walk_at "un"
    have hC : SqL K H1 p (ms.map V.int) := SqL.of hm
    refine z_lcR (B := []) (C := []) (lo := 0) (n := (if ((ms.map V.int).length : Int) > 1 then ((ms.map V.int).length : Int) else 1).toNat)
      (fun R r => ⟨_, rfl, _, _, rfl, .inl hC, _, _, rfl, _, rfl, by split <;> omega, by rw [List.length_map]; split <;> omega, r H1 (Ex.refl _ _)⟩) (fun _ z _ => z = .bl true) (fun _ _ => True)
      (fun H2 x2 => ⟨lcOk0 (by rw [List.length_map]; split <;> omega), fun i x hi hx D H' hD' nB e1 _ tD N hN => ?_, fun D zs H' hD' hz lz rz e1 _ => ?_⟩)
    · subst hx
      rw [Int.zero_add]
      have hi4 : i < 64 := by rw [List.length_map] at hi; split at hi <;> omega
      refine ⟨rfl, _, rfl, _, rfl, p, ms, i, rfl, le_l (x2.trans e1).le0 hC, hi4, fun pb H4 hpb x4 B4 => ?_⟩
      refine ⟨pb, 0, rfl, B4, by decide, fun H5 x5 => ?_⟩
      exact hN _ H5 (Ex.drop hpb ((Ex.nil x4).trans x5)) rfl trivial
    · have ez : zs = (List.replicate zs.length true).map V.bl := by
        apply List.ext_getElem?
        intro j
        rw [List.map_replicate]
        by_cases c : j < zs.length
        · rw [List.getElem?_eq_getElem c, rz j _ (List.getElem?_eq_getElem c), List.getElem?_replicate, if_pos c]
        · rw [List.getElem?_eq_none (by omega), List.getElem?_eq_none (by rw [List.length_replicate]; omega)]
      refine ⟨D, List.replicate zs.length true, rfl, SqL.of (by rw [hz, ← ez]), ?_⟩
      have ea : (List.replicate zs.length true).all id = true := by
        rw [List.all_eq_true]
        intro z hz
        rw [List.eq_of_mem_replicate hz]
        rfl
      rw [ea]
      exact q H'
end
theorem all_mk {l : PySem.W.OpenLaw} {w : World} {K : PySem.W.Frag} {h : Heap} {mg : Str → Option Value} {fa : Addr} (X : K.In h) (G : h.Ns mainGlobals mg) (hfa : mg "law" = some (.ref fa))
    {f0 : Addr} {od0 an0 : Option Addr} {sl0 : Array (Option Value)} {oc0 kV0 dc0 pm0 cd0 ct0 : Value}
    (a0 : PySem.W.nsIn K mainGlobals "gone_back" = some (some (.ref f0))) (l0 : K.lookup f0 = some ⟨oc0, od0, .func (PySem.W.fnOf "gone_back" "gone_back" (defArgs s_gone_back) (defBody s_gone_back) (defScope s_gone_back) .none kV0 dc0 pm0 an0 cd0 ct0), sl0⟩) (c0 : PySem.W.codeIn K cd0 "gone_back" = true) (k0 : PySem.W.keepIn K (.ref f0) = true)
    {f1 : Addr} {od1 an1 : Option Addr} {sl1 : Array (Option Value)} {oc1 kV1 dc1 pm1 cd1 ct1 : Value}
    (a1 : PySem.W.nsIn K mainGlobals "least_steps" = some (some (.ref f1))) (l1 : K.lookup f1 = some ⟨oc1, od1, .func (PySem.W.fnOf "least_steps" "least_steps" (defArgs s_least_steps) (defBody s_least_steps) (defScope s_least_steps) .none kV1 dc1 pm1 an1 cd1 ct1), sl1⟩) (c1 : PySem.W.codeIn K cd1 "least_steps" = true) (k1 : PySem.W.keepIn K (.ref f1) = true)
    {f2 : Addr} {od2 an2 : Option Addr} {sl2 : Array (Option Value)} {oc2 kV2 dc2 pm2 cd2 ct2 : Value}
    (a2 : PySem.W.nsIn K mainGlobals "first_in" = some (some (.ref f2))) (l2 : K.lookup f2 = some ⟨oc2, od2, .func (PySem.W.fnOf "first_in" "first_in" (defArgs s_first_in) (defBody s_first_in) (defScope s_first_in) .none kV2 dc2 pm2 an2 cd2 ct2), sl2⟩) (c2 : PySem.W.codeIn K cd2 "first_in" = true) (k2 : PySem.W.keepIn K (.ref f2) = true)
    {f3 : Addr} {od3 an3 : Option Addr} {sl3 : Array (Option Value)} {oc3 kV3 dc3 pm3 cd3 ct3 : Value}
    (a3 : PySem.W.nsIn K mainGlobals "last_below" = some (some (.ref f3))) (l3 : K.lookup f3 = some ⟨oc3, od3, .func (PySem.W.fnOf "last_below" "last_below" (defArgs s_last_below) (defBody s_last_below) (defScope s_last_below) .none kV3 dc3 pm3 an3 cd3 ct3), sl3⟩) (c3 : PySem.W.codeIn K cd3 "last_below" = true) (k3 : PySem.W.keepIn K (.ref f3) = true)
    {f4 : Addr} {od4 an4 : Option Addr} {sl4 : Array (Option Value)} {oc4 kV4 dc4 pm4 cd4 ct4 : Value}
    (a4 : PySem.W.nsIn K mainGlobals "_law_box" = some (some (.ref f4))) (l4 : K.lookup f4 = some ⟨oc4, od4, .func (PySem.W.fnOf "_law_box" "_law_box" (defArgs s__law_box) (defBody s__law_box) (defScope s__law_box) .none kV4 dc4 pm4 an4 cd4 ct4), sl4⟩) (c4 : PySem.W.codeIn K cd4 "_law_box" = true) (k4 : PySem.W.keepIn K (.ref f4) = true)
    {f5 : Addr} {od5 an5 : Option Addr} {sl5 : Array (Option Value)} {oc5 kV5 dc5 pm5 cd5 ct5 : Value}
    (a5 : PySem.W.nsIn K mainGlobals "_law_take" = some (some (.ref f5))) (l5 : K.lookup f5 = some ⟨oc5, od5, .func (PySem.W.fnOf "_law_take" "_law_take" (defArgs s__law_take) (defBody s__law_take) (defScope s__law_take) .none kV5 dc5 pm5 an5 cd5 ct5), sl5⟩) (c5 : PySem.W.codeIn K cd5 "_law_take" = true) (k5 : PySem.W.keepIn K (.ref f5) = true)
    {f6 : Addr} {od6 an6 : Option Addr} {sl6 : Array (Option Value)} {oc6 kV6 dc6 pm6 cd6 ct6 : Value}
    (a6 : PySem.W.nsIn K mainGlobals "_law_folded" = some (some (.ref f6))) (l6 : K.lookup f6 = some ⟨oc6, od6, .func (PySem.W.fnOf "_law_folded" "_law_folded" (defArgs s__law_folded) (defBody s__law_folded) (defScope s__law_folded) .none kV6 dc6 pm6 an6 cd6 ct6), sl6⟩) (c6 : PySem.W.codeIn K cd6 "_law_folded" = true) (k6 : PySem.W.keepIn K (.ref f6) = true)
    {f7 : Addr} {od7 an7 : Option Addr} {sl7 : Array (Option Value)} {oc7 kV7 dc7 pm7 cd7 ct7 : Value}
    (a7 : PySem.W.nsIn K mainGlobals "_law_same" = some (some (.ref f7))) (l7 : K.lookup f7 = some ⟨oc7, od7, .func (PySem.W.fnOf "_law_same" "_law_same" (defArgs s__law_same) (defBody s__law_same) (defScope s__law_same) .none kV7 dc7 pm7 an7 cd7 ct7), sl7⟩) (c7 : PySem.W.codeIn K cd7 "_law_same" = true) (k7 : PySem.W.keepIn K (.ref f7) = true)
    {f8 : Addr} {od8 an8 : Option Addr} {sl8 : Array (Option Value)} {oc8 kV8 dc8 pm8 cd8 ct8 : Value}
    (a8 : PySem.W.nsIn K mainGlobals "_law_of" = some (some (.ref f8))) (l8 : K.lookup f8 = some ⟨oc8, od8, .func (PySem.W.fnOf "_law_of" "_law_of" (defArgs s__law_of) (defBody s__law_of) (defScope s__law_of) .none kV8 dc8 pm8 an8 cd8 ct8), sl8⟩) (c8 : PySem.W.codeIn K cd8 "_law_of" = true) (k8 : PySem.W.keepIn K (.ref f8) = true)
    {f9 : Addr} {od9 an9 : Option Addr} {sl9 : Array (Option Value)} {oc9 kV9 dc9 pm9 cd9 ct9 : Value}
    (a9 : PySem.W.nsIn K mainGlobals "_law_floors" = some (some (.ref f9))) (l9 : K.lookup f9 = some ⟨oc9, od9, .func (PySem.W.fnOf "_law_floors" "_law_floors" (defArgs s__law_floors) (defBody s__law_floors) (defScope s__law_floors) .none kV9 dc9 pm9 an9 cd9 ct9), sl9⟩) (c9 : PySem.W.codeIn K cd9 "_law_floors" = true) (k9 : PySem.W.keepIn K (.ref f9) = true)
    {f10 : Addr} {od10 an10 : Option Addr} {sl10 : Array (Option Value)} {oc10 kV10 dc10 pm10 cd10 ct10 : Value}
    (a10 : PySem.W.nsIn K mainGlobals "_law_hits" = some (some (.ref f10))) (l10 : K.lookup f10 = some ⟨oc10, od10, .func (PySem.W.fnOf "_law_hits" "_law_hits" (defArgs s__law_hits) (defBody s__law_hits) (defScope s__law_hits) .none kV10 dc10 pm10 an10 cd10 ct10), sl10⟩) (c10 : PySem.W.codeIn K cd10 "_law_hits" = true) (k10 : PySem.W.keepIn K (.ref f10) = true)
    {f11 : Addr} {od11 an11 : Option Addr} {sl11 : Array (Option Value)} {oc11 kV11 dc11 pm11 cd11 ct11 : Value}
    (a11 : PySem.W.nsIn K mainGlobals "_law_small_right" = some (some (.ref f11))) (l11 : K.lookup f11 = some ⟨oc11, od11, .func (PySem.W.fnOf "_law_small_right" "_law_small_right" (defArgs s__law_small_right) (defBody s__law_small_right) (defScope s__law_small_right) .none kV11 dc11 pm11 an11 cd11 ct11), sl11⟩) (c11 : PySem.W.codeIn K cd11 "_law_small_right" = true) (k11 : PySem.W.keepIn K (.ref f11) = true)
    {f12 : Addr} {od12 an12 : Option Addr} {sl12 : Array (Option Value)} {oc12 kV12 dc12 pm12 cd12 ct12 : Value}
    (a12 : PySem.W.nsIn K mainGlobals "_law_great_right" = some (some (.ref f12))) (l12 : K.lookup f12 = some ⟨oc12, od12, .func (PySem.W.fnOf "_law_great_right" "_law_great_right" (defArgs s__law_great_right) (defBody s__law_great_right) (defScope s__law_great_right) .none kV12 dc12 pm12 an12 cd12 ct12), sl12⟩) (c12 : PySem.W.codeIn K cd12 "_law_great_right" = true) (k12 : PySem.W.keepIn K (.ref f12) = true)
    {f13 : Addr} {od13 an13 : Option Addr} {sl13 : Array (Option Value)} {oc13 kV13 dc13 pm13 cd13 ct13 : Value}
    (a13 : PySem.W.nsIn K mainGlobals "_law_right" = some (some (.ref f13))) (l13 : K.lookup f13 = some ⟨oc13, od13, .func (PySem.W.fnOf "_law_right" "_law_right" (defArgs s__law_right) (defBody s__law_right) (defScope s__law_right) .none kV13 dc13 pm13 an13 cd13 ct13), sl13⟩) (c13 : PySem.W.codeIn K cd13 "_law_right" = true) (k13 : PySem.W.keepIn K (.ref f13) = true)
    {f14 : Addr} {od14 an14 : Option Addr} {sl14 : Array (Option Value)} {oc14 kV14 dc14 pm14 cd14 ct14 : Value}
    (a14 : PySem.W.nsIn K mainGlobals "law" = some (some (.ref f14))) (l14 : K.lookup f14 = some ⟨oc14, od14, .func (PySem.W.fnOf "law" "law" (defArgs s_law) (defBody s_law) (defScope s_law) .none kV14 dc14 pm14 an14 cd14 ct14), sl14⟩) (c14 : PySem.W.codeIn K cd14 "law" = true) (k14 : PySem.W.keepIn K (.ref f14) = true)
    (z0 : PySem.W.nsIn K mainGlobals "len" = some none)
    (z1 : PySem.W.nsIn K mainGlobals "abs" = some none)
    (z2 : PySem.W.nsIn K mainGlobals "divmod" = some none)
    (z3 : PySem.W.nsIn K mainGlobals "all" = some none)
    (z4 : PySem.W.nsIn K mainGlobals "int" = some none)
    (z5 : PySem.W.nsIn K mainGlobals "bool" = some none)
    (z6 : PySem.W.nsIn K mainGlobals "list" = some none)
    (z7 : PySem.W.nsIn K mainGlobals "tuple" = some none)
    (z8 : PySem.W.nsIn K mainGlobals "str" = some none)
    (z9 : PySem.W.nsIn K mainGlobals "max" = some none)
    (z10 : PySem.W.nsIn K mainGlobals "min" = some none)
    (z11 : PySem.W.nsIn K mainGlobals "isinstance" = some none)
    (z12 : PySem.W.nsIn K mainGlobals "range" = some none)
    (z13 : PySem.W.nsIn K mainGlobals "enumerate" = some none)
    (z14 : PySem.W.nsIn K mainGlobals "zip" = some none)
    (z15 : PySem.W.nsIn K mainGlobals "reversed" = some none)
    : ∃ fd : FuncData, (∀ (s : Shared) (v : Value), BindsTo s fd ⟨[v], []⟩ [("_law_script", v)]) ∧ ∀ base : Heap, K.In base → base.Ns mainGlobals mg → FnOk l.prog w K mg base CX0 lawLevel fa fd ["_law_script"] (spLaw K) := by
  have e := hfa.symm.trans (PySem.W.mg_of X G a14)
  cases e
  let T : Txt K mg := {
    a_gone_back := f0, d_gone_back := _, F_gone_back := fun_mk (st := s_gone_back) l0 c0 k0, m_gone_back := PySem.W.mg_of X G a0,
    a_least_steps := f1, d_least_steps := _, F_least_steps := fun_mk (st := s_least_steps) l1 c1 k1, m_least_steps := PySem.W.mg_of X G a1,
    a_first_in := f2, d_first_in := _, F_first_in := fun_mk (st := s_first_in) l2 c2 k2, m_first_in := PySem.W.mg_of X G a2,
    a_last_below := f3, d_last_below := _, F_last_below := fun_mk (st := s_last_below) l3 c3 k3, m_last_below := PySem.W.mg_of X G a3,
    a__law_box := f4, d__law_box := _, F__law_box := fun_mk (st := s__law_box) l4 c4 k4, m__law_box := PySem.W.mg_of X G a4,
    a__law_take := f5, d__law_take := _, F__law_take := fun_mk (st := s__law_take) l5 c5 k5, m__law_take := PySem.W.mg_of X G a5,
    a__law_folded := f6, d__law_folded := _, F__law_folded := fun_mk (st := s__law_folded) l6 c6 k6, m__law_folded := PySem.W.mg_of X G a6,
    a__law_same := f7, d__law_same := _, F__law_same := fun_mk (st := s__law_same) l7 c7 k7, m__law_same := PySem.W.mg_of X G a7,
    a__law_of := f8, d__law_of := _, F__law_of := fun_mk (st := s__law_of) l8 c8 k8, m__law_of := PySem.W.mg_of X G a8,
    a__law_floors := f9, d__law_floors := _, F__law_floors := fun_mk (st := s__law_floors) l9 c9 k9, m__law_floors := PySem.W.mg_of X G a9,
    a__law_hits := f10, d__law_hits := _, F__law_hits := fun_mk (st := s__law_hits) l10 c10 k10, m__law_hits := PySem.W.mg_of X G a10,
    a__law_small_right := f11, d__law_small_right := _, F__law_small_right := fun_mk (st := s__law_small_right) l11 c11 k11, m__law_small_right := PySem.W.mg_of X G a11,
    a__law_great_right := f12, d__law_great_right := _, F__law_great_right := fun_mk (st := s__law_great_right) l12 c12 k12, m__law_great_right := PySem.W.mg_of X G a12,
    a__law_right := f13, d__law_right := _, F__law_right := fun_mk (st := s__law_right) l13 c13 k13, m__law_right := PySem.W.mg_of X G a13,
    a_law := _, d_law := _, F_law := fun_mk (st := s_law) l14 c14 k14, m_law := PySem.W.mg_of X G a14,
    z_len := PySem.W.mg_none_of X G z0, z_abs := PySem.W.mg_none_of X G z1, z_divmod := PySem.W.mg_none_of X G z2, z_all := PySem.W.mg_none_of X G z3, z_int := PySem.W.mg_none_of X G z4, z_bool := PySem.W.mg_none_of X G z5, z_list := PySem.W.mg_none_of X G z6, z_tuple := PySem.W.mg_none_of X G z7, z_str := PySem.W.mg_none_of X G z8, z_max := PySem.W.mg_none_of X G z9, z_min := PySem.W.mg_none_of X G z10, z_isinstance := PySem.W.mg_none_of X G z11, z_range := PySem.W.mg_none_of X G z12, z_enumerate := PySem.W.mg_none_of X G z13, z_zip := PySem.W.mg_none_of X G z14, z_reversed := PySem.W.mg_none_of X G z15 }
  exact ⟨PySem.W.fnOf "law" "law" (defArgs s_law) (defBody s_law) (defScope s_law) .none kV14 dc14 pm14 an14 cd14 ct14, fun s v => .of_eq rfl, fun base _ _ => ok_law T⟩

end Z10
open PySem PySem.W PyProof.Rows
set_option maxHeartbeats 0 in
theorem PySem.Challenge.cw_honeyturns_k10_the_last_one_below_holds : PySem.Challenge.rw_honeyturns_k10_the_last_one_below.Holds := by
  w_on; o_law; k_head; (case hw => w_witness2)
  k_fill
  refine L2.walk_of (l := PySem.Challenge.rw_honeyturns_k10_the_last_one_below) (n := 63) (k := Z10.lawLevel) (x := "_law_script") (CX := fun _ => L2.CX0) (sp := fun w => Z10.spLaw _) rfl (by decide) rfl ⟨rfl, by decide, by decide⟩ (fun w h Y => PySem.W.kIn_of Y) ?F (fun _ _ a ns hl _ hS => ⟨a, ns, rfl, hS, hl, fun _ => rfl⟩) (fun _ _ _ _ _ h => h)
  case F =>
    intro w mg fa h KX G hmg
    refine' Z10.all_mk KX G hmg ?a0 ?l0 ?c0 ?k0 ?a1 ?l1 ?c1 ?k1 ?a2 ?l2 ?c2 ?k2 ?a3 ?l3 ?c3 ?k3 ?a4 ?l4 ?c4 ?k4 ?a5 ?l5 ?c5 ?k5 ?a6 ?l6 ?c6 ?k6 ?a7 ?l7 ?c7 ?k7 ?a8 ?l8 ?c8 ?k8 ?a9 ?l9 ?c9 ?k9 ?a10 ?l10 ?c10 ?k10 ?a11 ?l11 ?c11 ?k11 ?a12 ?l12 ?c12 ?k12 ?a13 ?l13 ?c13 ?k13 ?a14 ?l14 ?c14 ?k14 ?z0 ?z1 ?z2 ?z3 ?z4 ?z5 ?z6 ?z7 ?z8 ?z9 ?z10 ?z11 ?z12 ?z13 ?z14 ?z15
    (case a0 => k_is); (case l0 => k_is); (case c0 => k_is); (case k0 => k_is); (case a1 => k_is); (case l1 => k_is); (case c1 => k_is); (case k1 => k_is); (case a2 => k_is); (case l2 => k_is); (case c2 => k_is); (case k2 => k_is); (case a3 => k_is); (case l3 => k_is); (case c3 => k_is); (case k3 => k_is); (case a4 => k_is); (case l4 => k_is); (case c4 => k_is); (case k4 => k_is); (case a5 => k_is); (case l5 => k_is); (case c5 => k_is); (case k5 => k_is); (case a6 => k_is); (case l6 => k_is); (case c6 => k_is); (case k6 => k_is); (case a7 => k_is); (case l7 => k_is); (case c7 => k_is); (case k7 => k_is); (case a8 => k_is); (case l8 => k_is); (case c8 => k_is); (case k8 => k_is); (case a9 => k_is); (case l9 => k_is); (case c9 => k_is); (case k9 => k_is); (case a10 => k_is); (case l10 => k_is); (case c10 => k_is); (case k10 => k_is); (case a11 => k_is); (case l11 => k_is); (case c11 => k_is); (case k11 => k_is); (case a12 => k_is); (case l12 => k_is); (case c12 => k_is); (case k12 => k_is); (case a13 => k_is); (case l13 => k_is); (case c13 => k_is); (case k13 => k_is); (case a14 => k_is); (case l14 => k_is); (case c14 => k_is); (case k14 => k_is); (case z0 => k_is); (case z1 => k_is); (case z2 => k_is); (case z3 => k_is); (case z4 => k_is); (case z5 => k_is); (case z6 => k_is); (case z7 => k_is); (case z8 => k_is); (case z9 => k_is); (case z10 => k_is); (case z11 => k_is); (case z12 => k_is); (case z13 => k_is); (case z14 => k_is); (case z15 => k_is)

