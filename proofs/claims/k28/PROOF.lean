import PyProof.Rows.All
import Wide.All
import OpenK.AllK
import Wide.FinOn
import HandS.ForMost
import HandS.IsInst
import HandS.WideBits
import HandS.Wide
import HandS.Zip
import HandS.Style
import HandS.TupAny
import KE.KTupSum
import PyProof.ReprRoads
import PyProof.LongRange
import HandS.NoneIn
import PyProof.Rows.IntBool
import PyProof.AutoIntG7
import HandS.TupSets
import PySem.Challenge.RW_honeyturns_k28_back_by_hand
set_option Elab.async false
set_option linter.all false
set_option maxRecDepth 100000
set_option maxHeartbeats 2000000
namespace Hz
open PySem PySem.Spec PyProof.Rows L2

/-! ### rules that the layer lacks -/
section
variable {X : Cx} {CX : CXT} {k : Nat} {f : Addr} {fd : FuncData} {ps ks : List Str} {sp : Sp} {E : XK} {x : Str} {p pos : Pos} {kws : List Keyword} {tk : TA}
variable {g : List Value → List Value → List Value} {gV : List V → List V → List V}
/-- f(k = v, ..), all by names -/
theorem pe_callK0 (F : FnOk X.prog X.w X.K X.mg X.base CX k f fd ps sp) (hr : Room k X.A) (hg : Gl X x) (hm : X.mg x = some (.ref f)) (hk : PySem.W.keepIn X.K (.ref f) = true) (hb : KBinds X.K fd ps ks g gV) (hx : Passes CX X E)
    (hkw : PK X kws tk) (hall : (backToKw pos (keywordEach kws X.env)).all (·.1.isSome) = true := by rfl) (hks : (backToKw pos (keywordEach kws X.env)).filterMap (·.1) = ks := by rfl)
    (hdb : (x == ("__debug__" : Str)) = false := by decide)
    (hpl : ((backTo pos (starEach [] X.env)).any (·.1) || (backToKw pos (keywordEach kws X.env)).any (·.1.isNone)) = false := by rfl) :
    PE X (.Call (.Name x p) [] kws pos) (tCallK sp gV E tNil tk) := by
  refine ⟨fun pins s σ H Q I h => ?_⟩
  refine wpAny_Call_Name_kw (ld_glob I hg hm ?_ hdb)
  refine PySem.W.callWith_KW0 (h₀ := X.base) I.ok.mod.kin hk hall ?_ hpl
  refine thn (hkw.run pos pins s σ H _ I h) fun ws s2 ⟨zs, H2, I2, rz, q2⟩ => ⟨I2.kIn, ?_⟩
  rw [hks]
  exact run_fnk (us := []) (vs := []) F hr hb hx I2 .nil rz q2
end

/-! ### what may be walked: a list or a tuple -/
def Sq (K : PySem.W.Frag) (H : Hp) (a : Addr) (xs : List V) : Prop := SqL K H a xs ∨ SqT K H a xs
section
variable {X : Cx} {tg : Expr}
theorem pi_or {e : Expr} {w1 w2 : TI} (h1 : PI X tg e w1) (h2 : PI X tg e w2) : PI X tg e (fun σ H R => w1 σ H R ∨ w2 σ H R) :=
  ⟨fun pins s σ H R I h => h.elim (h1.run pins s σ H R I) (h2.run pins s σ H R I)⟩
theorem pi_seq {l : Expr} {tl : TE} (hl : PE X l tl) : PI X tg l (fun σ H R => iList X.K tl σ H R ∨ iTup X.K tl σ H R) := pi_or (pi_list hl) (pi_tup hl)
def rSlB (K : PySem.W.Frag) : V → Option Int → Option Int → Hp → VK → Prop := fun x lo hi H Q => rSlL K x lo hi H Q ∨ rSlA K x lo hi H Q
theorem sl_seq : SlR X (rSlB X.K) := sl_list.or sl_tupA
theorem ix_any : IxR X (rIx X.K) := ix_seq
theorem sum_tup {prog : Program} {w : World} {A : Around} {E : Value → Shared → Prop} {s : Shared} {t : Addr} {its : List Value} {ns : List Int} {Q : Value → Shared → Prop}
    (hh : A.handled = none) (hl : s.heap.IsTuple t its.toArray) (hi : IntsAre its ns)
    (h : ∀ h' tk t', (∀ b o, s.heap.get? b = some o → h'.get? b = some o) → Q (.int ns.sum t') { s with heap := h', toks := tk }) : wpAny (model prog w) A (call (.builtin "sum") [.ref t]) Q E s := by
  obtain ⟨xs, e⟩ := hi.allInts.items
  have hn : numsOf (intItems xs).toList = ns := by rw [← e]; exact hi.numsOf
  rw [nums_intItems] at hn
  rw [e] at hl
  refine PySem.W.ktm_sumG hh hl fun h' tk t' hk => ?_
  have := h h' tk t' hk
  rw [preSum_eq, List.take_of_length_le (by simp), hn]; exact this
def rSumA (K : PySem.W.Frag) : List V → Hp → VK → Prop := fun vs H Q => ∃ (a : Addr) (ns : List Int), vs = [V.ref a] ∧ Sq K H a (ns.map V.int) ∧ Q (.int ns.sum) H
theorem cr_sumA (hc : X.calm = true) : CallR X (.builtin "sum") (rSumA X.K) := by
  intro pins s σ H vs us Q I r h
  obtain ⟨a, ns, rfl, hs, q⟩ := h
  rcases hs with hs | hs
  · exact cr_sum hc pins s σ H [V.ref a] us Q I r ⟨a, ns, rfl, hs, q⟩
  · obtain ⟨its, rv, ht, _⟩ := I.tuple hs
    rw [Vals.ref1 r]
    exact sum_tup (I.ok.hd hc) ht rv.ints fun h' tk t' hk => ⟨.int _, H, I.kept hk, ⟨_, rfl⟩, q⟩
end
end Hz
namespace Hz
open PySem PySem.Spec PyProof.Rows L2

/-! ### heaps but for some addresses -/
def wo (B : List Addr) (H : Hp) : Hp := fun a => if a ∈ B then none else H a
/-- all that was tracked outside B is as it was; what was tracked is -/
def Ex (B : List Addr) (H H' : Hp) : Prop := (∀ a o, a ∉ B → H a = some o → H' a = some o) ∧ ∀ a, H' a = none → H a = none
theorem Ex.get {B : List Addr} {H H' : Hp} (e : Ex B H H') {a : Addr} {o : HO} (n : a ∉ B) (h : H a = some o) : H' a = some o := e.1 a o n h
theorem Ex.free {B : List Addr} {H H' : Hp} {p : Addr} (e : Ex B H H') (h : H' p = none) : H p = none := e.2 p h
theorem Ex.refl (B : List Addr) (H : Hp) : Ex B H H := ⟨fun _ _ _ h => h, fun _ h => h⟩
theorem Ex.trans {B : List Addr} {H H1 H2 : Hp} (a : Ex B H H1) (b : Ex B H1 H2) : Ex B H H2 := ⟨fun x o n h => b.1 x o n (a.1 x o n h), fun x h => a.2 x (b.2 x h)⟩
theorem upd_free {H : Hp} {p a : Addr} {o : HO} (h : upd H p o a = none) : H a = none := by
  by_cases z : a = p
  · subst z; rw [upd_same] at h; cases h
  · rw [upd_ne z] at h; exact h
theorem Ex.new {B : List Addr} {H : Hp} {p : Addr} {o : HO} (h : H p = none) : Ex B H (upd H p o) := ⟨fun a u _ e => by
  rw [upd_ne (ne_of_none e h)]
  exact e, fun _ => upd_free⟩
theorem Ex.mut {B : List Addr} {H : Hp} {p : Addr} {o : HO} (h : p ∈ B) : Ex B H (upd H p o) := ⟨fun a u n e => by
  rw [upd_ne (by intro z; subst z; exact n h)]
  exact e, fun _ => upd_free⟩
/-- a new object that changes afterwards -/
theorem Ex.mutNew {B : List Addr} {H H1 : Hp} {p : Addr} {o : HO} (h : H p = none) (e1 : Ex B H H1) : Ex B H (upd H1 p o) := ⟨fun a u n e => by
  rw [upd_ne (ne_of_none e h)]
  exact e1.1 a u n e, fun a q => e1.2 a (upd_free q)⟩
theorem Ex.mutNew' {B : List Addr} {H H1 : Hp} {p : Addr} {o : HO} (e1 : Ex B H H1) (h : H p = none) : Ex B H (upd H1 p o) := Ex.mutNew h e1
theorem Ex.sub {B C : List Addr} {H H' : Hp} (h : ∀ a, a ∈ B → a ∈ C) (e : Ex B H H') : Ex C H H' := ⟨fun a o n q => e.1 a o (fun z => n (h a z)) q, e.2⟩
/-- what is new at the start need not be kept -/
theorem Ex.drop {B : List Addr} {H H' : Hp} {p : Addr} (h : H p = none) (e : Ex (p :: B) H H') : Ex B H H' := ⟨fun a o n q =>
  e.1 a o (fun z => by
    rcases List.mem_cons.mp z with z | z
    · rw [z, h] at q; cases q
    · exact n z) q, e.2⟩
theorem Ex.nil {B : List Addr} {H H' : Hp} (e : Ex [] H H') : Ex B H H' := e.sub fun _ h => by cases h
theorem wo_some {B : List Addr} {H : Hp} {a : Addr} {o : HO} (h : wo B H a = some o) : a ∉ B ∧ H a = some o := by
  unfold wo at h
  by_cases z : a ∈ B
  · rw [if_pos z] at h; cases h
  · rw [if_neg z] at h; exact ⟨z, h⟩
theorem wo_of {B : List Addr} {H : Hp} {a : Addr} {o : HO} (n : a ∉ B) (h : H a = some o) : wo B H a = some o := by
  unfold wo
  rw [if_neg n]; exact h
theorem Ex.wo {B : List Addr} {H H' : Hp} (e : Ex B H H') : ∀ a o, Hz.wo B H a = some o → Hz.wo B H' a = some o := fun a o h => by
  obtain ⟨n, q⟩ := wo_some h
  exact wo_of n (e.1 a o n q)
theorem wo_nil (H : Hp) : wo [] H = H := by
  funext a
  unfold wo
  simp
/-- a read of a part is a read of the whole -/
def Le (H H' : Hp) : Prop := ∀ a o, H a = some o → H' a = some o
theorem wo_le (B : List Addr) (H : Hp) : Le (wo B H) H := fun _ _ h => (wo_some h).2
theorem wo_le2 {B C : List Addr} {H : Hp} (h : ∀ a, a ∈ B → a ∈ C) : Le (wo C H) (wo B H) := fun _ _ q => by
  obtain ⟨n, q⟩ := wo_some q
  exact wo_of (fun z => n (h _ z)) q
theorem Ex.le {B : List Addr} {H H' : Hp} (e : Ex B H H') : Le (Hz.wo B H) (Hz.wo B H') := e.wo
section
variable {K : PySem.W.Frag} {H H' : Hp} {a : Addr} {xs : List V}
theorem le_rd {u : HO} (e : Le H H') (h : Rd H a u) : Rd H' a u := by
  rcases h with h | ⟨o, h⟩
  · exact .inl (e _ _ h)
  · exact .inr ⟨o, e _ _ h⟩
theorem le_l (e : Le H H') (h : SqL K H a xs) : SqL K H' a xs := by
  rcases h with h | h
  · exact .inl (le_rd e h)
  · exact .inr h
theorem le_t (e : Le H H') (h : SqT K H a xs) : SqT K H' a xs := by
  rcases h with h | h
  · exact .inl (le_rd e h)
  · exact .inr h
theorem le_s (e : Le H H') (h : Sq K H a xs) : Sq K H' a xs := by
  rcases h with h | h
  · exact .inl (le_l e h)
  · exact .inr (le_t e h)
end
mutual
theorem dp_le {K : PySem.W.Frag} {H H' : Hp} (e : Le H H') : ∀ (d : PyData) (v : V), Dp K H v d → Dp K H' v d
  | .none, _, h => by cases h; exact .non
  | .bool b, _, h => by cases h; exact .bl b
  | .int i, _, h => by cases h; exact .int i
  | .str x, _, h => by cases h; exact .str x
  | .list ds, _, h => by cases h with | lst h1 h2 => exact .lst (le_l e h1) (dpa_le e ds _ h2)
  | .tuple ds, _, h => by cases h with | tup h1 h2 => exact .tup (le_t e h1) (dpa_le e ds _ h2)
  | .dict _, _, h => by cases h
theorem dpa_le {K : PySem.W.Frag} {H H' : Hp} (e : Le H H') : ∀ (ds : List PyData) (vs : List V), DpAll K H vs ds → DpAll K H' vs ds
  | [], _, h => by cases h; exact .nil
  | d :: ds, _, h => by cases h with | cons h1 h2 => exact .cons (dp_le e d _ h1) (dpa_le e ds _ h2)
end

/-! ### steps of a reading -/
section
variable {K : PySem.W.Frag} {H : Hp} {a : Addr} {xs : List V} {i : Int} {v : V} {Q : VK}
theorem z_ix (h : Sq K H a xs) (hv : atI xs i = some v) (q : Q v H) : rIx K (.ref a) (.int i) H Q := by
  rcases h with h | h
  · exact .inl ⟨a, xs, i, v, rfl, rfl, h, hv, q⟩
  · exact .inr (.inl ⟨a, xs, i, v, rfl, rfl, h, hv, q⟩)
theorem z_ixL (h : H a = some (.lst xs)) (hv : atI xs i = some v) (q : Q v H) : rIx K (.ref a) (.int i) H Q := z_ix (.inl (SqL.of h)) hv q
end

/-! ### the box of the laws: three numbers in a list, the third counts -/
def Bx (b : Addr) (n : Nat) (H : Hp) : Prop := ∃ x y c : Int, H b = some (.lst [.int x, .int y, .int c]) ∧ 0 ≤ x ∧ 0 ≤ y ∧ y < 2147483647 ∧ 0 ≤ c ∧ c ≤ n
theorem Bx.mono {b : Addr} {n m : Nat} {H : Hp} (h : Bx b n H) (l : n ≤ m) : Bx b m H := by
  obtain ⟨x, y, c, h1, h2, h3, h4, h5, h6⟩ := h
  exact ⟨x, y, c, h1, h2, h3, h4, h5, by omega⟩
theorem Bx.ex {B : List Addr} {b : Addr} {n : Nat} {H H' : Hp} (h : Bx b n H) (e : Ex B H H') (hb : b ∉ B) : Bx b n H' := by
  obtain ⟨x, y, c, h1, h2, h3, h4, h5, h6⟩ := h
  exact ⟨x, y, c, e.1 _ _ hb h1, h2, h3, h4, h5, h6⟩

/-! ### numbers -/
theorem log2_small {j : Int} (h0 : 0 < j) (h : j ≤ 10 ^ 60) : j.natAbs.log2 < 9000 := by
  have h1 : j.natAbs ≤ 10 ^ 60 := by omega
  have h2 : j.natAbs < 2 ^ 200 := Nat.lt_of_le_of_lt h1 (by decide)
  exact Nat.lt_of_lt_of_le (PySem.Flt.log2_lt_of (by decide) h2) (by decide)
theorem divp_of {i j : Int} (h0 : 0 < j) (h : j ≤ 10 ^ 60) : CDivP i j := ⟨h0, PyProof.noPylong_of_log2 (log2_small h0 h)⟩
theorem divw_of {i j : Int} (h0 : 0 < j) (h : j ≤ 10 ^ 60) : CDivW i j := ⟨h0, log2_small h0 h⟩
theorem sl2 : 2 ≤ sizeLine := by decide
theorem sz_of {n : Nat} (h : n ≤ 100000) : n ≤ sizeLine := Nat.le_trans h (by decide)
theorem sz_lt {n : Nat} (h : n < 100000) : n < sizeLine := Nat.lt_of_lt_of_le h (by decide)
theorem small2 {i : Int} (h0 : 0 ≤ i) (h : i < 2 ^ 64) : -(2 ^ 64) < i ∧ i < 2 ^ 64 := ⟨by omega, h⟩

/-- a tuple (t) or a list -/
def SqX (t : Bool) (K : PySem.W.Frag) (H : Hp) (a : Addr) (xs : List V) : Prop := if t = true then SqT K H a xs else SqL K H a xs
section
variable {t : Bool} {K : PySem.W.Frag} {H H' : Hp} {a : Addr} {xs : List V}
theorem SqX.sq (h : SqX t K H a xs) : Sq K H a xs := by
  cases t with
  | true => exact .inr h
  | false => exact .inl h
theorem le_x (e : Le H H') (h : SqX t K H a xs) : SqX t K H' a xs := by
  cases t with
  | true => exact le_t e (show SqT K H a xs from h)
  | false => exact le_l e (show SqL K H a xs from h)
end
/-! ### loops -/
section
variable {K : PySem.W.Frag} {a : Addr} {xs : List V} {g : TG} {tb : TS} {D : Ends} {σ : L2.St} {H : Hp} {B : List Addr} {tl : TE}
theorem for_enum (Pv : Nat → L2.St → Hp → Prop) (h0 : Pv 0 σ H) (hl : ∀ i σ H, i ≤ xs.length → Pv i σ H → SqL K H a xs)
    (hs : ∀ (i : Nat) (x : V) (T : Addr) (σ : L2.St) (H : Hp), xs[i]? = some x → Pv i σ H → H T = none → g (.ref T) σ (upd H T (.tup [.int (i : Nat), x])) fun σ2 H2 => tb { D with nx := Pv (i + 1), ct := Pv (i + 1), bk := D.nx } σ2 H2) (hd : ∀ σ H, Pv xs.length σ H → D.nx σ H) :
    ∃ W : Nat → Nat → L2.St → Hp → Prop, (∃ m, W 0 m σ H) ∧ ∀ i m σ H, W i m σ H →
      ((Ite K a).stop i H ∧ D.nx σ H) ∨ ((Ite K a).go i H ∧ ∃ N : L2.St → Hp → Prop, (∀ σ' H', N σ' H' → ∃ m', m' < m ∧ W (i + 1) m' σ' H') ∧ ∀ v H', (Ite K a).yld i H v H' → g v σ H' fun σ2 H2 => tb { D with nx := N, ct := N, bk := D.nx } σ2 H2) := by
  refine ⟨fun i m σ H => m = xs.length - i ∧ i ≤ xs.length ∧ Pv i σ H, ⟨xs.length, rfl, Nat.zero_le _, h0⟩, ?_⟩
  rintro i m σ H ⟨rfl, hi, p⟩
  have qx := hl i σ H hi p
  by_cases hlt : i < xs.length
  · have hx : xs[i]? = some xs[i] := List.getElem?_eq_getElem hlt
    refine .inr ⟨⟨xs, _, qx, hx⟩, Pv (i + 1), fun σ' H' p' => ⟨xs.length - (i + 1), by omega, rfl, hlt, p'⟩, fun v H' y => ?_⟩
    obtain ⟨T, x', rfl, hT, rfl, f1⟩ := y
    exact hs i x' T σ H (f1 xs qx) p hT
  · have e : i = xs.length := by omega
    subst e
    exact .inl ⟨⟨xs, qx, Nat.le_refl _⟩, hd σ H p⟩
/-- over a list or a tuple that stays as it is -/
theorem z_forS (hS : Sq K (wo B H) a xs) (htl : ∀ R : VK, R (.ref a) H → tl σ H R) (Pv : Nat → L2.St → Hp → Prop) (h0 : Pv 0 σ H) (hl : ∀ i σ' H', Pv i σ' H' → Ex B H H')
    (hs : ∀ (i : Nat) (x : V) (σ' : L2.St) (H' : Hp), xs[i]? = some x → Pv i σ' H' → g x σ' H' fun σ2 H2 => tb { D with nx := Pv (i + 1), ct := Pv (i + 1), bk := D.nx } σ2 H2) (hd : ∀ σ' H', Pv xs.length σ' H' → D.nx σ' H') :
    tFor (fun σ H R => iList K tl σ H R ∨ iTup K tl σ H R) g tb D σ H := by
  rcases hS with hS | hS
  · exact .inl (htl _ ⟨a, rfl, ⟨xs, le_l (wo_le B H) hS⟩, for_list Pv h0 (fun i σ' H' _ p => le_l (wo_le B H') (le_l (hl i σ' H' p).le hS)) hs hd⟩)
  · exact .inr (htl _ ⟨a, rfl, ⟨xs, le_t (wo_le B H) hS⟩, for_tup Pv h0 (fun i σ' H' _ p => le_t (wo_le B H') (le_t (hl i σ' H' p).le hS)) hs hd⟩)
end

/-! ### comprehensions: each item's value by R -/
theorem le_wo_cons {B C : List Addr} {D : Addr} {H H' : Hp} (hC : ∀ a, a ∈ C → a ∈ B) (hD : H D = none) (e : Ex C H H') : Le (wo B H) (wo (D :: B) H') := fun a o h => by
  obtain ⟨n, q⟩ := wo_some h
  refine wo_of (fun z => ?_) (e.1 a o (fun z => n (hC a z)) q)
  rcases List.mem_cons.mp z with z | z
  · rw [z, hD] at q; cases q
  · exact n z
section
variable {K : PySem.W.Frag} {g : TG} {te : TE} {vs : List Nat} {σ : L2.St} {H : Hp} {B C : List Addr}
/-- what a comprehension's loop keeps -/
def LcP (B C : List Addr) (H : Hp) (R : Nat → V → Hp → Prop) (J : Nat → Hp → Prop) (D : Addr) (i : Nat) (H' : Hp) : Prop :=
  Ex C H H' ∧ J i H' ∧ ∃ ys, H' D = some (.lst ys) ∧ ys.length = i ∧ ∀ j y, ys[j]? = some y → R j y (wo (D :: B) H')
/-- one turn's value goes onto the list -/
def LcT (B C : List Addr) (H : Hp) (R : Nat → V → Hp → Prop) (J : Nat → Hp → Prop) (g : TG) (te : TE) (vs : List Nat) (σ : L2.St) (i : Nat) (x : V) : Prop :=
  ∀ D H', H D = none → D ∉ B → Ex C H H' → J i H' → (H' D ≠ none) → ∀ N : VK, (∀ y H3, Ex C H' H3 → R i y (wo (D :: B) H3) → J (i + 1) H3 → N y H3) → g x (wipe σ vs) H' fun σ2 H2 => wipe σ2 vs = wipe σ vs ∧ te σ2 H2 N
structure LcOk (B C : List Addr) (H : Hp) (R : Nat → V → Hp → Prop) (J : Nat → Hp → Prop) (n : Nat) : Prop where
  hB : ∀ b, b ∈ B → H b ≠ none
  hC : ∀ a, a ∈ C → a ∈ B
  hR : ∀ i v G G', Le G G' → R i v G → R i v G'
  hJ : ∀ D i H' H'', H D = none → D ∉ B → Ex [D] H' H'' → J i H' → J i H''
  j0 : J 0 H
  hn : n < 100000
theorem lcOk0 {R : Nat → V → Prop} {n : Nat} (h : n < 100000) : LcOk [] [] H (fun i v _ => R i v) (fun _ _ => True) n := ⟨fun b hb => by simp at hb, fun _ h => h, fun _ _ _ _ _ h => h, fun _ _ _ _ _ _ _ _ => trivial, trivial, h⟩
theorem LcOk.nb {R : Nat → V → Hp → Prop} {J : Nat → Hp → Prop} {n : Nat} (O : LcOk B C H R J n) {D : Addr} (hD : H D = none) : D ∉ B := fun h => O.hB D h hD
theorem lcP_start {R : Nat → V → Hp → Prop} {J : Nat → Hp → Prop} {n : Nat} (O : LcOk B C H R J n) {D : Addr} (hD : H D = none) {H1 : Hp} (x1 : Ex [] H H1) : LcP B C H R J D 0 (upd H1 D (.lst [])) :=
  ⟨(Ex.nil x1).mutNew' hD, O.hJ D 0 H _ hD (O.nb hD) ((Ex.nil x1).trans (Ex.mut (List.mem_singleton.mpr rfl))) O.j0, [], upd_same, rfl, fun j y h => by simp at h⟩
theorem le_upd {B C : List Addr} (hC : ∀ a, a ∈ C → a ∈ B) {D : Addr} {H' H3 : Hp} {o : HO} (e : Ex C H' H3) : Le (wo (D :: B) H') (wo (D :: B) (upd H3 D o)) := fun a u h => by
  obtain ⟨n, q⟩ := wo_some h
  have na : a ≠ D := fun z => n (by rw [z]; exact List.mem_cons_self ..)
  have nb : a ∉ B := fun z => n (List.mem_cons_of_mem _ z)
  refine wo_of n ?_
  rw [upd_ne na]
  exact e.1 a u (fun z => nb (hC a z)) q
theorem lcP_turn {R : Nat → V → Hp → Prop} {J : Nat → Hp → Prop} {n : Nat} (O : LcOk B C H R J n) {D : Addr} (hD : H D = none) {i : Nat} (hi : i < n) {H' H3 : Hp} {y : V} (p : LcP B C H R J D i H') (e : Ex C H' H3) (r : R i y (wo (D :: B) H3)) (j : J (i + 1) H3) :
    ∃ acc, H3 D = some (.lst acc) ∧ acc.length < sizeLine ∧ LcP B C H R J D (i + 1) (upd H3 D (.lst (acc ++ [y]))) := by
  obtain ⟨x1, _, ys, d1, l1, r1⟩ := p
  have nb := O.nb hD
  refine ⟨ys, e.1 D _ (fun z => nb (O.hC D z)) d1, sz_lt (by have := O.hn; omega), (x1.trans e).mutNew' hD, O.hJ D _ _ _ hD nb (Ex.mut (List.mem_singleton.mpr rfl)) j, ys ++ [y], upd_same, by simp [l1], fun k z hk => ?_⟩
  by_cases c : k < ys.length
  · rw [List.getElem?_append_left c] at hk
    exact O.hR k z _ _ (le_upd O.hC e) (r1 k z hk)
  · have ek : k = i := by
      have : k < (ys ++ [y]).length := by
        obtain ⟨h, _⟩ := List.getElem?_eq_some_iff.mp hk
        exact h
      rw [List.length_append, List.length_singleton] at this
      omega
    subst ek
    rw [List.getElem?_append_right (by omega), l1, Nat.sub_self] at hk
    have ez : y = z := Option.some.inj hk
    subst ez
    exact O.hR k y _ _ (le_upd O.hC (Ex.refl _ _)) r
theorem lcP_end {R : Nat → V → Hp → Prop} {J : Nat → Hp → Prop} {n : Nat} (O : LcOk B C H R J n) {D : Addr} {H' : Hp} (p : LcP B C H R J D n H') :
    ∃ ys, H' D = some (.lst ys) ∧ ys.length = n ∧ (∀ j y, ys[j]? = some y → R j y (wo B H')) ∧ Ex C H H' ∧ J n H' := by
  obtain ⟨x1, j1, ys, d1, l1, r1⟩ := p
  exact ⟨ys, d1, l1, fun j y h => O.hR j y _ _ (wo_le2 fun a h => List.mem_cons_of_mem _ h) (r1 j y h), x1, j1⟩
theorem lcP_there {R : Nat → V → Hp → Prop} {J : Nat → Hp → Prop} {D : Addr} {i : Nat} {H' : Hp} (p : LcP B C H R J D i H') : H' D ≠ none := by
  obtain ⟨_, _, ys, d1, _⟩ := p
  rw [d1]
  exact fun z => by cases z
/-- what a comprehension over n items asks, the source standing -/
structure LcAll (B C : List Addr) (H : Hp) (R : Nat → V → Hp → Prop) (J : Nat → Hp → Prop) (g : TG) (te : TE) (vs : List Nat) (σ : L2.St) (n : Nat) (item : Nat → V → Prop) (Q : VK) : Prop where
  ok : LcOk B C H R J n
  turn : ∀ i x, i < n → item i x → LcT B C H R J g te vs σ i x
  fin : ∀ D ys H', H D = none → H' D = some (.lst ys) → ys.length = n → (∀ j y, ys[j]? = some y → R j y (wo B H')) → Ex C H H' → J n H' → Q (.ref D) H'
section
variable {R : Nat → V → Hp → Prop} {J : Nat → Hp → Prop} {n : Nat} {item : Nat → V → Prop} {Q : VK}
theorem LcAll.end_ (CC : LcAll B C H R J g te vs σ n item Q) {D : Addr} (hD : H D = none) {H' : Hp} (p : LcP B C H R J D n H') : Q (.ref D) H' := by
  obtain ⟨ys, d1, l1, r1, x1, j1⟩ := lcP_end CC.ok p
  exact CC.fin D ys H' hD d1 l1 r1 x1 j1
theorem LcAll.step (CC : LcAll B C H R J g te vs σ n item Q) {D : Addr} (hD : H D = none) {i : Nat} {x : V} {H' : Hp} (hi : i < n) (hx : item i x) (p : LcP B C H R J D i H') : g x (wipe σ vs) H' fun σ2 H2 => wipe σ2 vs = wipe σ vs ∧ tYes σ2 H2 fun b H3 =>
      if b = true then te σ2 H3 fun y H4 => ∃ acc, H4 D = some (.lst acc) ∧ acc.length < sizeLine ∧ LcP B C H R J D (i + 1) (upd H4 D (.lst (acc ++ [y]))) else LcP B C H R J D (i + 1) H3 := by
  have h1 := CC.turn i x hi hx D H' hD (CC.ok.nb hD) p.1 p.2.1 (lcP_there p) _ (fun y H3 e r j => lcP_turn CC.ok hD hi p e r j)
  simpa only [tYes, if_true, eq_self] using h1
end
theorem z_lcS {t : Bool} {xs : List V} {tl : TE} {Q : VK} (htl : ∀ R : VK, (∀ a H1, Ex [] H H1 → SqX t K (wo B H1) a xs → R (.ref a) H1) → tl σ H R) (R : Nat → V → Hp → Prop) (J : Nat → Hp → Prop)
    (k : ∀ H1, Ex [] H H1 → LcAll B C H1 R J g te vs σ xs.length (fun i x => xs[i]? = some x) Q) : tLc (fun σ H R => iList K tl σ H R ∨ iTup K tl σ H R) g tYes te vs σ H Q := by
  have lt : ∀ {i : Nat} {x : V}, xs[i]? = some x → i < xs.length := fun h => by
    obtain ⟨h, _⟩ := List.getElem?_eq_some_iff.mp h
    exact h
  cases t with
  | false => exact .inl (htl _ fun a H1 x1 hS => ⟨a, rfl, ⟨xs, le_l (wo_le B H1) hS⟩, fun D hD => lc_list (LcP B C H1 R J D) (lcP_start (k H1 x1).ok hD (Ex.refl _ _)) (fun i H' _ p => le_l (wo_le B H') (le_l (p.1.sub (k H1 x1).ok.hC).le hS)) (fun i x H' hx p => (k H1 x1).step hD (lt hx) hx p) (fun H' p => (k H1 x1).end_ hD p)⟩)
  | true => exact .inr (htl _ fun a H1 x1 hS => ⟨a, rfl, ⟨xs, le_t (wo_le B H1) hS⟩, fun D hD => lc_tup (LcP B C H1 R J D) (lcP_start (k H1 x1).ok hD (Ex.refl _ _)) (fun i H' _ p => le_t (wo_le B H') (le_t (p.1.sub (k H1 x1).ok.hC).le hS)) (fun i x H' hx p => (k H1 x1).step hD (lt hx) hx p) (fun H' p => (k H1 x1).end_ hD p)⟩)
theorem z_lcL {xs : List V} {tl : TE} {Q : VK} (htl : ∀ R : VK, (∀ a H1, Ex [] H H1 → SqL K (wo B H1) a xs → R (.ref a) H1) → tl σ H R) (R : Nat → V → Hp → Prop) (J : Nat → Hp → Prop)
    (k : ∀ H1, Ex [] H H1 → LcAll B C H1 R J g te vs σ xs.length (fun i x => xs[i]? = some x) Q) : tLc (iList K tl) g tYes te vs σ H Q := by
  have lt : ∀ {i : Nat} {x : V}, xs[i]? = some x → i < xs.length := fun h => by
    obtain ⟨h, _⟩ := List.getElem?_eq_some_iff.mp h
    exact h
  exact (htl _ fun a H1 x1 hS => ⟨a, rfl, ⟨xs, le_l (wo_le B H1) hS⟩, fun D hD => lc_list (LcP B C H1 R J D) (lcP_start (k H1 x1).ok hD (Ex.refl _ _)) (fun i H' _ p => le_l (wo_le B H') (le_l (p.1.sub (k H1 x1).ok.hC).le hS)) (fun i x H' hx p => (k H1 x1).step hD (lt hx) hx p) (fun H' p => (k H1 x1).end_ hD p)⟩)
theorem z_lcR {n : Nat} {lo : Int} {Q : VK} {wi : TI} (hwi : ∀ R : It → Hp → Prop, (∀ H1, Ex [] H H1 → R (Itr lo n) H1) → wi σ H R) (R : Nat → V → Hp → Prop) (J : Nat → Hp → Prop)
    (k : ∀ H1, Ex [] H H1 → LcAll B C H1 R J g te vs σ n (fun i x => x = .int (lo + i)) Q) : tLc wi g tYes te vs σ H Q :=
  hwi _ fun H1 x1 D hD => lc_range (LcP B C H1 R J D) (lcP_start (k H1 x1).ok hD (Ex.refl _ _)) (fun i H' hi p => (k H1 x1).step hD hi rfl p) (fun H' p => (k H1 x1).end_ hD p)
end

/-! ### data -/
/-- a tuple | a list -/
def sq (t : Bool) (ds : List PyData) : PyData := if t then .tuple ds else .list ds
section
variable {K : PySem.W.Frag} {G H : Hp} {v : V} {t : Bool} {ds : List PyData} {xs : List V} {B : List Addr}
theorem dp_sq (h : Dp K G v (sq t ds)) : ∃ a xs, v = .ref a ∧ SqX t K G a xs ∧ DpAll K G xs ds := by
  cases t with
  | true => cases (show Dp K G v (.tuple ds) from h) with | tup h1 h2 => exact ⟨_, _, rfl, h1, h2⟩
  | false => cases (show Dp K G v (.list ds) from h) with | lst h1 h2 => exact ⟨_, _, rfl, h1, h2⟩
theorem dp_tup (h : Dp K G v (.tuple ds)) : ∃ a xs, v = .ref a ∧ SqT K G a xs ∧ DpAll K G xs ds := by
  cases h with | tup h1 h2 => exact ⟨_, _, rfl, h1, h2⟩
theorem dp_int {i : Int} (h : Dp K G v (.int i)) : v = .int i := by cases h; rfl
theorem dp_bl {i : Bool} (h : Dp K G v (.bool i)) : v = .bl i := by cases h; rfl
theorem dpa_len : ∀ {xs : List V} {ds : List PyData}, DpAll K G xs ds → xs.length = ds.length
  | _, _, .nil => rfl
  | _, _, .cons _ h => by rw [List.length_cons, List.length_cons, dpa_len h]
theorem dpa_get : ∀ {xs : List V} {ds : List PyData} {i : Nat} {d : PyData}, DpAll K G xs ds → ds[i]? = some d → ∃ v, xs[i]? = some v ∧ Dp K G v d
  | _, _, _, _, .nil, e => by simp at e
  | _, _, 0, _, .cons r _, e => by simp at e; subst e; exact ⟨_, rfl, r⟩
  | _, _, i + 1, d, .cons _ t, e => by
    obtain ⟨u, h1, h2⟩ := dpa_get (i := i) (d := d) t (by simpa using e)
    exact ⟨u, by simpa using h1, h2⟩
theorem dpa_get' {i : Nat} {v : V} (h : DpAll K G xs ds) (e : xs[i]? = some v) : ∃ d, ds[i]? = some d ∧ Dp K G v d := by
  have hl := dpa_len h
  obtain ⟨hi, _⟩ := List.getElem?_eq_some_iff.mp e
  obtain ⟨u, h1, h2⟩ := dpa_get h (List.getElem?_eq_getElem (show i < ds.length by omega))
  rw [e] at h1
  cases h1
  exact ⟨_, List.getElem?_eq_getElem (show i < ds.length by omega), h2⟩
theorem dpa_of : ∀ {xs : List V} {ds : List PyData}, xs.length = ds.length → (∀ (i : Nat) (v : V), xs[i]? = some v → ∃ d, ds[i]? = some d ∧ Dp K G v d) → DpAll K G xs ds
  | [], [], _, _ => .nil
  | [], _ :: _, h, _ => by simp at h
  | _ :: _, [], h, _ => by simp at h
  | x :: xs, d :: ds, h, q => by
    refine .cons ?_ (dpa_of (by simpa using h) fun i v e => ?_)
    · obtain ⟨d', e1, e2⟩ := q 0 x rfl
      cases e1
      exact e2
    · obtain ⟨d', e1, e2⟩ := q (i + 1) v (by simpa using e)
      exact ⟨d', by simpa using e1, e2⟩
theorem dpa_ints : ∀ {ns : List Int} {xs : List V}, DpAll K G xs (ns.map PyData.int) → xs = ns.map V.int
  | [], _, h => by cases h; rfl
  | n :: ns, _, h => by
    cases h with
    | cons h1 h2 => rw [dp_int h1, dpa_ints h2]; rfl
theorem dpa_of_ints : ∀ (ns : List Int), DpAll K G (ns.map V.int) (ns.map PyData.int)
  | [] => .nil
  | n :: ns => .cons (.int n) (dpa_of_ints ns)
theorem z_ixD {i : Int} {d : PyData} {j : Nat} {Q : VK} (h : Dp K G v (sq t ds)) (le : Le G H) (ei : i = (j : Int)) (hd : ds[j]? = some d) (q : ∀ u, Dp K G u d → Q u H) : rIx K v (.int i) H Q := by
  obtain ⟨a, xs, rfl, hS, hA⟩ := dp_sq h
  obtain ⟨u, h1, h2⟩ := dpa_get hA hd
  refine z_ix (le_s le hS.sq) (v := u) ?_ (q u h2)
  rw [ei]
  exact atI_nat h1
theorem Le.refl (H : Hp) : Le H H := fun _ _ h => h
theorem Le.trans {H1 H2 H3 : Hp} (a : Le H1 H2) (b : Le H2 H3) : Le H1 H3 := fun x o h => b x o (a x o h)
theorem Ex.le0 {H H' : Hp} (e : Ex [] H H') : Le H H' := fun a o h => e.1 a o (by simp) h
/-- a comprehension's ints -/
theorem ys_ints {α : Type} {l : List α} {f : α → Int} {ys : List V} (hl : ys.length = l.length) (h : ∀ (j : Nat) (y : V), ys[j]? = some y → ∃ d, l[j]? = some d ∧ y = V.int (f d)) : ys = (l.map f).map V.int := by
  apply List.ext_getElem?
  intro j
  rw [List.getElem?_map, List.getElem?_map]
  by_cases c : j < ys.length
  · obtain ⟨d, e1, e2⟩ := h j ys[j] (List.getElem?_eq_getElem c)
    rw [List.getElem?_eq_getElem c, e1, e2]
    rfl
  · rw [List.getElem?_eq_none (by omega), List.getElem?_eq_none (by omega)]
    rfl
end
theorem fnOk_weak {P : Program} {w : World} {K : PySem.W.Frag} {mg : Str → Option Value} {base : Heap} {CX : CXT} {k : Nat} {f : Addr} {fd : FuncData} {ps : List Str} {sp sp' : Sp} (F : FnOk P w K mg base CX k f fd ps sp) (h : ∀ vs H Q E, sp' vs H Q E → sp vs H Q E) : FnOk P w K mg base CX k f fd ps sp' :=
  ⟨fun vs H Q E q => F.len vs H Q E (h _ _ _ _ q), fun A outer s H args us vs Q E r e b v q => F.run A outer s H args us vs Q E r e b v (h _ _ _ _ q)⟩

/-! ### hills -/
structure Hill where
  year : List (Int × Bool)
  needs : List Int
  most : Int
namespace Hill
def drops (h : Hill) : Int := (h.year.map (·.1)).sum
abbrev dat (t : Bool) (h : Hill) : PyData := sq t [sq t (h.year.map fun d => sq t [.int d.1, .bool d.2]), sq t (h.needs.map PyData.int), .int h.most]
end Hill

theorem cut_head (xs : List V) (n : Nat) : cutV xs none (some (n : Int)) = xs.take n := by
  unfold cutV
  rw [HT.sIx_nat, HT.sIx_none, List.drop_zero, Nat.sub_zero]
  by_cases h : n ≤ xs.length
  · rw [Nat.min_eq_left h]
  · rw [Nat.min_eq_right (by omega), List.take_of_length_le (Nat.le_refl _), List.take_of_length_le (by omega)]
theorem cut_mid (xs : List V) (n m : Nat) (h : xs.length ≤ m) : cutV xs (some (n : Int)) (some (m : Int)) = xs.drop n := by
  unfold cutV
  rw [HT.sIx_nat, HT.sIx_nat, Nat.min_eq_right h]
  by_cases h2 : n ≤ xs.length
  · rw [Nat.min_eq_left h2, List.take_of_length_le]
    rw [List.length_drop]
    omega
  · rw [Nat.min_eq_right (by omega), Nat.sub_self, List.take_zero, List.drop_eq_nil_of_le (by omega)]
theorem ixN_nat {n j : Nat} (hj : j < n) : ixN n (j : Int) = some j := by
  unfold ixN
  rw [if_pos (by omega), if_pos (by omega)]
  simp
theorem set_ints (ms : List Int) (j : Nat) (z : Int) : (ms.map V.int).set j (.int z) = (ms.set j z).map V.int := by
  rw [List.map_set]
theorem get_ints {ms : List Int} {j : Nat} (h : j < ms.length) : (ms.map V.int)[j]? = some (.int ms[j]) := by
  rw [List.getElem?_map, List.getElem?_eq_getElem h]
  rfl

/-! ### the rules with the written part named (a comprehension's block has the same) -/
section
variable {X : Cx}
theorem ixK (K : PySem.W.Frag) (h : X.K = K := by rfl) : IxR X (rIx K) := by subst h; exact ix_any
theorem slK (K : PySem.W.Frag) (h : X.K = K := by rfl) : SlR X (rSlB K) := by subst h; exact sl_seq
theorem lenK (K : PySem.W.Frag) (h : X.K = K := by rfl) : CallR X (.builtin "len") (fun xs H Q => ∃ p ys, xs = [.ref p] ∧ Sq K H p ys ∧ Q (.int ys.length) H) := by subst h; exact call_len_seq
theorem sumK (K : PySem.W.Frag) (hc : X.calm = true := by rfl) (h : X.K = K := by rfl) : CallR X (.builtin "sum") (rSumA K) := by subst h; exact cr_sumA hc
theorem allK (K : PySem.W.Frag) (hc : X.calm = true := by rfl) (h : X.K = K := by rfl) : CallR X (.builtin "all") (rAll K) := by subst h; exact cr_all hc
theorem anyK (K : PySem.W.Frag) (hc : X.calm = true := by rfl) (h : X.K = K := by rfl) : CallR X (.builtin "any") (rAny K) := by subst h; exact cr_any hc
def rListA (K : PySem.W.Frag) : List V → Hp → VK → Prop := fun xs H Q => ∃ p ys, xs = [.ref p] ∧ Sq K H p ys ∧ ∀ l, H l = none → Q (.ref l) (upd H l (.lst ys))
theorem listK (K : PySem.W.Frag) (h : X.K = K := by rfl) : CallR X (.type "list") (rListA K) := by subst h; exact call_list_of
def rTupA (K : PySem.W.Frag) : List V → Hp → VK → Prop := fun xs H Q => ∃ p ys, xs = [.ref p] ∧ ((SqL K H p ys ∧ ∀ l, H l = none → Q (.ref l) (upd H l (.tup ys))) ∨ (SqT K H p ys ∧ Q (.ref p) H))
theorem tupK (K : PySem.W.Frag) (h : X.K = K := by rfl) : CallR X (.type "tuple") (rTupA K) := by subst h; exact call_tuple_of
theorem isiK (K : PySem.W.Frag) (h : X.K = K := by rfl) : CallR X (.builtin "isinstance") (rIsi K) := by subst h; exact call_isi
theorem isiTK (K : PySem.W.Frag) (h : X.K = K := by rfl) : CallR X (.builtin "isinstance") (rIsiT K) := by subst h; exact call_isiT
theorem inK (K : PySem.W.Frag) (h : X.K = K := by rfl) : OpR X (compareOp .In) (rIn K false) := by subst h; exact op_in_seq
theorem ninK (K : PySem.W.Frag) (h : X.K = K := by rfl) : OpR X (compareOp .NotIn) (rIn K true) := by subst h; exact op_notIn_seq
theorem eqDK (K : PySem.W.Frag) (hu : X.A.units + 64 < cLine) (h : X.K = K := by rfl) : OpR X (compareOp .Eq) (rEqD K) := by subst h; exact op_eqD hu
theorem neDK (K : PySem.W.Frag) (hu : X.A.units + 64 < cLine) (h : X.K = K := by rfl) : OpR X (compareOp .NotEq) (rNeD K) := by subst h; exact op_neD hu
theorem catTK (K : PySem.W.Frag) (h : X.K = K := by rfl) : OpR X (binaryOp .Add) (rCatA K) := by subst h; exact op_catA
theorem pg_tupK (K : PySem.W.Frag) (n : Nat) {es : List Expr} {k : Nat} {t : TGs} {pos : Pos} (hc : X.calm = true) (h : PGs X es t) (hK : X.K = K := by rfl) (hn : (assignEach es X.env).length = n := by rfl) (hst : (assignEach es X.env).findIdx? (·.1) = none := by rfl) : PG X (.Tuple es k pos) (gTup K n t) := by
  subst hK
  exact pg_tup hc h hn hst
theorem pi_listK (K : PySem.W.Frag) {tg l : Expr} {tl : TE} (hl : PE X l tl) (h : X.K = K := by rfl) : PI X tg l (iList K tl) := by subst h; exact pi_list hl
theorem pi_tupK (K : PySem.W.Frag) {tg l : Expr} {tl : TE} (hl : PE X l tl) (h : X.K = K := by rfl) : PI X tg l (iTup K tl) := by subst h; exact pi_tup hl
theorem pi_seqK (K : PySem.W.Frag) {tg l : Expr} {tl : TE} (hl : PE X l tl) (h : X.K = K := by rfl) : PI X tg l (fun σ H R => iList K tl σ H R ∨ iTup K tl σ H R) := by subst h; exact pi_seq hl
end

section
variable {K : PySem.W.Frag} {H : Hp} {a : Addr} {xs : List V}
/-- a slice of a list or a tuple -/
theorem z_sl {t : Bool} {lo hi : Option Int} {Q : VK} (h : SqX t K H a xs) (q : ∀ p H', Ex [] H H' → SqX t K H' p (cutV xs lo hi) → Q (.ref p) H') : rSlB K (.ref a) lo hi H Q := by
  cases t with
  | false => exact .inl ⟨a, xs, rfl, h, fun p hp => q p _ (Ex.new hp) (SqL.of upd_same)⟩
  | true =>
    refine .inr ⟨a, xs, rfl, h, fun ⟨e1, e2⟩ => ?_, fun _ p hp => q p _ (Ex.new hp) (SqT.of upd_same)⟩
    have e : cutV xs lo hi = xs := by
      unfold cutV
      rw [e1, e2, List.drop_zero, Nat.sub_zero, List.take_length]
    exact q a H (Ex.refl _ _) (by rw [e]; exact h)
end

/-! ### what a datum's type is -/
def tyN : PyData → String
  | .none => "NoneType" | .bool _ => "bool" | .int _ => "int" | .str _ => "str" | .list _ => "list" | .tuple _ => "tuple" | .dict _ => "dict"
def isIn (a n : String) : Bool := a == n || (a == "bool" && n == "int")
section
variable {K : PySem.W.Frag} {H : Hp} {v : V} {d : PyData} {a : Addr} {xs : List V}
theorem tyx_l (h : SqL K H a xs) : TyX K H (.ref a) (.type "list") := by
  rcases h with (h | ⟨o, h⟩) | ⟨o, its, n, h1, h2, _⟩
  · exact .base (.lst h)
  · exact .base (.frz h)
  · exact .kList h1 h2
theorem tyx_t (h : SqT K H a xs) : TyX K H (.ref a) (.type "tuple") := by
  rcases h with (h | ⟨o, h⟩) | ⟨o, its, n, h1, h2, _⟩
  · exact .base (.tup h)
  · exact .fTuple h
  · exact .kTuple h1 h2
theorem tyx_dp (h : Dp K H v d) : TyX K H v (.type (tyN d)) := by
  cases h with
  | non => exact .base .non
  | bl b => exact .base (.bl b)
  | int i => exact .base (.int i)
  | str x => exact .base (.str x)
  | lst h1 _ => exact tyx_l h1
  | tup h1 _ => exact tyx_t h1
theorem kitB_all : ∀ a ∈ (["NoneType", "bool", "int", "str", "list", "tuple"] : List String), ∀ n ∈ (["list", "tuple", "bool", "int", "str"] : List String), kitB a n = some (isIn a n) := by decide +kernel
theorem tyN_mem (h : Dp K H v d) : tyN d ∈ (["NoneType", "bool", "int", "str", "list", "tuple"] : List String) := by
  cases h <;> simp [tyN]
theorem kitB_of (h : Dp K H v d) {n : String} (hn : n = "list" ∨ n = "tuple" ∨ n = "bool" ∨ n = "int" ∨ n = "str") : kitB (tyN d) n = some (isIn (tyN d) n) :=
  kitB_all _ (tyN_mem h) _ (by rcases hn with rfl | rfl | rfl | rfl | rfl <;> simp)
theorem z_isi {n : String} {Q : VK} (h : Dp K H v d) (hn : n = "list" ∨ n = "tuple" ∨ n = "bool" ∨ n = "int" ∨ n = "str") (q : Q (.bl (isIn (tyN d) n)) H) : rIsi K [v, .ty n] H Q :=
  ⟨v, .ty n, .type (tyN d), .type n, _, rfl, .ty n, tyx_dp h, kit_ty (kitB_of h hn), q⟩
theorem z_isiLT {p : Addr} {Q : VK} (h : Dp K H v d) (hp : H p = some (.tup [.ty "list", .ty "tuple"])) (q : Q (.bl (isIn (tyN d) "list" || isIn (tyN d) "tuple")) H) : rIsiT K [v, .ref p] H Q := by
  refine ⟨v, p, _, .type (tyN d), [.type "list", .type "tuple"], _, rfl, hp, .cons (.ty _) (.cons (.ty _) .nil), tyx_dp h, ?_, q⟩
  have e1 := kitB_of h (n := "list") (.inl rfl)
  have e2 := kitB_of h (n := "tuple") (.inr (.inl rfl))
  exact kitAny_cons (kit_ty e1) (fun e => by rw [e, Bool.false_or]; exact kitAny_cons (kit_ty e2) (fun e => by rw [e]; rfl) (fun e => e)) (fun e => by rw [e]; rfl)
end
mutual
/-- lists for tuples, at any depth -/
def listed : PyData → PyData
  | .list ds => .list (listedAll ds)
  | .tuple ds => .list (listedAll ds)
  | d => d
def listedAll : List PyData → List PyData
  | [] => []
  | d :: ds => listed d :: listedAll ds
end
theorem listedAll_map : ∀ ds : List PyData, listedAll ds = ds.map listed
  | [] => rfl
  | d :: ds => by show listed d :: listedAll ds = _; rw [listedAll_map ds]; rfl
/-- no deeper than n, no longer than 1000 -/
def dpt : Nat → PyData → Prop
  | 0, .list _ => False
  | 0, .tuple _ => False
  | n + 1, .list ds => ds.length ≤ 1000 ∧ ∀ d ∈ ds, dpt n d
  | n + 1, .tuple ds => ds.length ≤ 1000 ∧ ∀ d ∈ ds, dpt n d
  | _, .dict _ => False
  | _, _ => True
section
variable {K : PySem.W.Frag} {g : TG} {te : TE} {vs : List Nat} {σ : L2.St} {H : Hp} {B C : List Addr}
/-- a comprehension over zip of two lists, of two tuples -/
theorem z_lcZ {t : Bool} {xs ys : List V} {ta : TA} {Q : VK} (hl : xs.length = ys.length) (hta : ∀ R : List V → Hp → Prop, (∀ a b H1, Ex [] H H1 → SqX t K (wo B H1) a xs → SqX t K (wo B H1) b ys → R [.ref a, .ref b] H1) → ta σ H R) (R : Nat → V → Hp → Prop) (J : Nat → Hp → Prop)
    (ok : ∀ H1, Ex [] H H1 → LcOk B C H1 R J xs.length)
    (turn : ∀ H1, Ex [] H H1 → ∀ (i : Nat) x y, xs[i]? = some x → ys[i]? = some y → ∀ D T H', H1 D = none → D ∉ B → Ex C H1 H' → J i H' → H' D ≠ none → T ≠ D → H' T = some (.tup [x, y]) →
      ∀ N : VK, (∀ z H3, Ex C H' H3 → R i z (wo (D :: B) H3) → J (i + 1) H3 → N z H3) → g (.ref T) (wipe σ vs) H' fun σ2 H2 => wipe σ2 vs = wipe σ vs ∧ te σ2 H2 N)
    (fin : ∀ H1, Ex [] H H1 → ∀ D zs H', H1 D = none → H' D = some (.lst zs) → zs.length = xs.length → (∀ j y, zs[j]? = some y → R j y (wo B H')) → Ex C H1 H' → J xs.length H' → Q (.ref D) H') :
    tLc (RZ.iZipA K ta) g tYes te vs σ H Q := by
  refine hta _ fun a b H1 x1 hx hy => ?_
  have O := ok H1 x1
  -- the loop, whatever the two are
  have core : ∀ (J0 : It), (∀ i H', J0.go i H' ∨ True) → (∀ i H', i < xs.length → Ex C H1 H' → J0.go i H') → (∀ i H', i = xs.length → Ex C H1 H' → J0.stop i H') →
      (∀ i H' v H'', Ex C H1 H' → J0.yld i H' v H'' → ∃ T x y, v = .ref T ∧ H' T = none ∧ H'' = upd H' T (.tup [x, y]) ∧ xs[i]? = some x ∧ ys[i]? = some y) →
      ∀ D, H1 D = none → ∃ W : Nat → Nat → Hp → Prop, (∃ m, W 0 m (upd H1 D (.lst []))) ∧ ∀ i m H, W i m H →
      ((J0.stop i H ∧ Q (.ref D) H) ∨ (J0.go i H ∧ ∃ Nx : Hp → Prop, (∀ H', Nx H' → ∃ m', m' < m ∧ W (i + 1) m' H') ∧ ∀ x H', J0.yld i H x H' → g x (wipe σ vs) H' fun σ2 H2 => wipe σ2 vs = wipe σ vs ∧ tYes σ2 H2 fun b H3 =>
        if b = true then te σ2 H3 fun y H4 => ∃ acc, H4 D = some (.lst acc) ∧ acc.length < sizeLine ∧ Nx (upd H4 D (.lst (acc ++ [y]))) else Nx H3)) := fun J0 _ hgo hstop hyld D hD => by
    refine ⟨fun i m H' => m = xs.length - i ∧ i ≤ xs.length ∧ LcP B C H1 R J D i H', ⟨xs.length, rfl, Nat.zero_le _, lcP_start O hD (Ex.refl _ _)⟩, ?_⟩
    rintro i m H' ⟨rfl, hi, p⟩
    by_cases hlt : i < xs.length
    · refine .inr ⟨hgo i H' hlt p.1, fun H'' => LcP B C H1 R J D (i + 1) H'', fun H'' p' => ⟨xs.length - (i + 1), by omega, rfl, hlt, p'⟩, fun v H'' yl => ?_⟩
      obtain ⟨T, x, y, rfl, hT, rfl, ex, ey⟩ := hyld i H' v H'' p.1 yl
      have hTD : T ≠ D := fun z => lcP_there p (z ▸ hT)
      have xT : Ex [] H' (upd H' T (.tup [x, y])) := Ex.new hT
      have pT : LcP B C H1 R J D i (upd H' T (.tup [x, y])) := by
        obtain ⟨e1, j1, zs, d1, l1, r1⟩ := p
        exact ⟨e1.trans (Ex.nil xT), O.hJ D i _ _ hD (O.nb hD) (Ex.nil xT) j1, zs, xT.1 D _ (by simp) d1, l1, fun j z hz => O.hR j z _ _ (Ex.nil xT).le (r1 j z hz)⟩
      have h1 := turn H1 x1 i x y ex ey D T _ hD (O.nb hD) pT.1 pT.2.1 (lcP_there pT) hTD upd_same _ (fun z H3 e r j => lcP_turn O hD hlt pT e r j)
      simpa only [tYes, if_true, eq_self] using h1
    · have e : i = xs.length := by omega
      subst e
      obtain ⟨zs, d1, l1, r1, x2, j1⟩ := lcP_end O p
      exact .inl ⟨hstop _ H' rfl p.1, fin H1 x1 D zs H' hD d1 l1 r1 x2 j1⟩
  cases t with
  | false =>
    have hx' : ∀ H', Ex C H1 H' → SqL K H' a xs := fun H' e => le_l (wo_le B H') (le_l (e.sub O.hC).le hx)
    have hy' : ∀ H', Ex C H1 H' → SqL K H' b ys := fun H' e => le_l (wo_le B H') (le_l (e.sub O.hC).le hy)
    refine ⟨a, b, xs, ys, rfl, .inl ⟨hx' H1 (Ex.refl _ _), hy' H1 (Ex.refl _ _), core (Itz K a b) (fun _ _ => .inr trivial) (fun i H' hi e => ?_) (fun i H' hi e => ?_) (fun i H' v H'' e yl => ?_)⟩⟩
    · exact ⟨xs, ys, _, _, hx' H' e, hy' H' e, List.getElem?_eq_getElem hi, List.getElem?_eq_getElem (show i < ys.length by omega)⟩
    · exact ⟨xs, ys, hx' H' e, hy' H' e, .inl (by omega)⟩
    · obtain ⟨T, x, y, rfl, hT, rfl, f1, f2⟩ := yl
      exact ⟨T, x, y, rfl, hT, rfl, f1 xs (hx' H' e), f2 ys (hy' H' e)⟩
  | true =>
    have hx' : ∀ H', Ex C H1 H' → SqT K H' a xs := fun H' e => le_t (wo_le B H') (le_t (e.sub O.hC).le hx)
    have hy' : ∀ H', Ex C H1 H' → SqT K H' b ys := fun H' e => le_t (wo_le B H') (le_t (e.sub O.hC).le hy)
    refine ⟨a, b, xs, ys, rfl, .inr ⟨hx' H1 (Ex.refl _ _), hy' H1 (Ex.refl _ _), core (RZ.ItzT K a b) (fun _ _ => .inr trivial) (fun i H' hi e => ?_) (fun i H' hi e => ?_) (fun i H' v H'' e yl => ?_)⟩⟩
    · exact ⟨xs, ys, _, _, hx' H' e, hy' H' e, List.getElem?_eq_getElem hi, List.getElem?_eq_getElem (show i < ys.length by omega)⟩
    · exact ⟨xs, ys, hx' H' e, hy' H' e, .inl (by omega)⟩
    · obtain ⟨T, x, y, rfl, hT, rfl, f1, f2⟩ := yl
      exact ⟨T, x, y, rfl, hT, rfl, f1 xs (hx' H' e), f2 ys (hy' H' e)⟩
end

/-! ### ranges of any ends -/
/-- the iterator that a range of great ends gives goes through its numbers as a small one's does -/
theorem turn_long {P : Program} {w : World} {K : PySem.W.Frag} {tg : Expr} (at0 : Addr) (lo : Int) (n : Nat) :
    Turn P w K tg (Itr lo n) [at0] at0 (fun k hp => IsLongIter hp at0 (lo + (k : Nat) * 1) ((n : Int) - (k : Nat)) 1) where
  mem := by simp
  obj := fun k hp there b hb => ⟨_, (List.mem_singleton.mp hb) ▸ there, fun v no => by injection (show Data.fields _ = Data.cell v from no)⟩
  keep := fun k hp hp2 there same => same at0 (List.mem_singleton.mpr rfl) _ there
  item := by
    intro X eP ew eK calm k pins sh σ H E J free there more
    subst eP; subst ew; subst eK
    obtain ⟨q0, q1, q2, q3, q4, q5⟩ := free at0 (List.mem_singleton.mpr rfl)
    refine (Walks.longrange (prog := X.prog) (w := X.w) (J.ok.hd calm) at0 lo 1 n).item k sh _ _ more there fun v hp2 tk2 hv there2 rest => ?_
    obtain ⟨tok, rfl⟩ := hv
    have J2 : Inv X pins σ H { sh with heap := hp2, toks := tk2 } := J.turned (fun b o nb e => rest b o (by simpa using nb) e) q0 q1 q3 q4 q5
    exact ⟨_, rfl, go_of (s := { sh with heap := hp2, toks := tk2 }) (n := "longrange_iterator") there2 rfl rfl (by decide)
      ⟨.int (lo + k), H, J2, ⟨tok, by rw [Int.mul_one]⟩, ⟨rfl, rfl⟩, there2, fun b hb => (free b hb).1⟩⟩
  done := by
    intro X eP ew eK calm k pins sh σ H E J free there over
    subst eP; subst ew; subst eK
    obtain ⟨q0, q1, q2, q3, q4, q5⟩ := free at0 (List.mem_singleton.mpr rfl)
    have none_left : (n : Int) - (k : Nat) ≤ 0 := by have : n ≤ k := over; omega
    exact wpAny_pyNext_long_end (J.ok.hd calm) there none_left fun hp2 rest =>
      ⟨rfl, J.turned (t' := sh.toks) (fun b o nb e => rest b o nb e) q0 q1 q3 q4 q5⟩
  self := fun _ _ _ _ _ there q => wpAny_pyIter_longiter there q
section
variable {X : Cx} {tg : Expr}
/-- a range just made, of any ends, gives an iterator -/
theorem range_any {pins : List (Addr × Obj)} {σ : L2.St} {H : Hp} {sh : Shared} {R : It → Hp → Prop} {E : Value → Shared → Prop} {lo hi : Int} {t u v : Tok} {tk : Nat} {ro : Obj}
    (er : ro = { cls := .type "range", data := .fields #[.int lo t, .int hi u, .int 1 v] }) (J : Inv X pins σ H sh) (q : R (Itr lo (hi - lo).toNat) H) :
    wpAny (model X.prog X.w) X.A (pyIter (.ref sh.heap.objs.size)) (PIE X pins σ tg R) E { sh with heap := sh.heap.push ro, toks := tk } := by
  subst er
  generalize er : ({ cls := .type "range", data := .fields #[.int lo t, .int hi u, .int 1 v] } : Obj) = ro
  have there : IsRange (sh.heap.push ro) sh.heap.objs.size lo hi 1 t u v := by subst er; exact IsRange.new ..
  have J2 : Inv X pins σ H { sh with heap := sh.heap.push ro, toks := tk } := J.kept fun b o e => Heap.get?_push_of_some _ e
  have first : lo + ((0 : Nat) : Int) * 1 = lo := by omega
  have left : (((hi - lo).toNat : Nat) : Int) - ((0 : Nat) : Int) = Builtin.Range.rangeSize lo hi 1 := by
    rw [rangeSize_one]
    split <;> omega
  have fp : ∀ b ∈ [(sh.heap.push ro).objs.size], FpOk X pins H b := fun b hb => by
    rw [List.mem_singleton.mp hb]
    exact J2.fpOk (Nat.le_refl _) (J2.hok.fresh (Nat.le_refl _))
  cases hs : Builtin.Range.small lo hi 1 with
  | true =>
    exact wpAny_pyIter_range there hs ⟨(sh.heap.push ro).objs.size, [(sh.heap.push ro).objs.size], _, _, H, rfl, J2.kept (t' := tk) fun b o e => Heap.get?_push_of_some _ e,
      turn_range _ lo (hi - lo).toNat, (by show IsRangeIter _ _ (lo + ((0 : Nat) : Int) * 1) ((((hi - lo).toNat : Nat) : Int) - ((0 : Nat) : Int)) 1; rw [first, left]; exact Heap.get?_push_size _ rfl), fp, q⟩
  | false =>
    exact wpAny_pyIter_longrange there hs ⟨(sh.heap.push ro).objs.size, [(sh.heap.push ro).objs.size], _, _, H, rfl, J2.kept (t' := tk) fun b o e => Heap.get?_push_of_some _ e,
      turn_long _ lo (hi - lo).toNat, (by show IsLongIter _ _ (lo + ((0 : Nat) : Int) * 1) ((((hi - lo).toNat : Nat) : Int) - ((0 : Nat) : Int)) 1; rw [first, left]; exact Heap.get?_push_size _ rfl), fp, q⟩
def iRng2W (ta : TA) : TI := fun σ H R => ta σ H fun vs H1 => ∃ i j : Int, vs = [.int i, .int j] ∧ R (Itr i (j - i).toNat) H1
theorem pi_range2W {a b : Expr} {ta : TA} {p pos : Pos} (glob : Gl X "range") (own : X.mg "range" = none) (ha : PA X [a, b] ta)
    (two : starEach [a, b] X.env = [(false, eval a X.env), (false, eval b X.env)] := by rfl) (one : starEach [b] X.env = [(false, eval b X.env)] := by rfl) :
    PI X tg (.Call (.Name "range" p) [a, b] [] pos) (iRng2W ta) :=
  ⟨fun pins sh σ H R J h => Call_ (ld_blt J glob own boot_range (PyProof.Rows.callWith_type1 (thn (ha.run pos pins sh σ H _ J h) fun us s1 ⟨vs, H1, J1, r1, i, j, e, q⟩ => by
    subst e
    obtain ⟨u1, u2, rfl, ⟨t, rfl⟩, ⟨t', rfl⟩⟩ := vals2 r1
    exact call_range_2 (range_any rfl J1 q)) (by rw [two, one]) (by rw [one]; rfl)))⟩
end
end Hz
namespace Hz
open PySem PySem.Spec PyProof.Rows L2
/-! ### a comprehension over a range, with a test -/
section
variable {K : PySem.W.Frag} {g : TG} {tt : TT} {te : TE} {vs : List Nat} {σ : L2.St} {H : Hp}
theorem z_lcRF {n : Nat} {lo : Int} {Q : VK} {wi : TI} (hwi : ∀ R : It → Hp → Prop, (∀ H1, Ex [] H H1 → R (Itr lo n) H1) → wi σ H R) (hn : n < 100000) (p : Nat → Bool) (f : Nat → V)
    (turn : ∀ H1, Ex [] H H1 → ∀ i, i < n → ∀ D H', H1 D = none → Ex [] H1 H' → H' D ≠ none → ∀ (N : VK) (M : Hp → Prop), (p i = true → ∀ H3, Ex [] H' H3 → N (f i) H3) → (p i = false → ∀ H3, Ex [] H' H3 → M H3) →
      g (.int (lo + i)) (wipe σ vs) H' fun σ2 H2 => wipe σ2 vs = wipe σ vs ∧ tt σ2 H2 fun b H3 => if b = true then te σ2 H3 N else M H3)
    (fin : ∀ H1, Ex [] H H1 → ∀ D H', H1 D = none → H' D = some (.lst (((List.range n).filter p).map f)) → Ex [] H1 H' → Q (.ref D) H') : tLc wi g tt te vs σ H Q := by
  refine hwi _ fun H1 x1 D hD => ?_
  have stay : ∀ {H' H3 : Hp} {xs : List V}, Ex [] H1 H' → Ex [] H' H3 → H' D = some (.lst xs) → H3 D = some (.lst xs) := fun _ e h => e.1 _ _ (by simp) h
  refine lc_range (fun i H' => Ex [] H1 H' ∧ H' D = some (.lst (((List.range i).filter p).map f))) ⟨Ex.new hD, upd_same⟩ (fun i H' hi hP => ?_) (fun H' hP => fin H1 x1 D H' hD hP.2 hP.1)
  obtain ⟨e1, hd⟩ := hP
  refine turn H1 x1 i hi D H' hD e1 (by rw [hd]; exact fun z => by cases z) _ _ (fun hp H3 e3 => ?_) (fun hp H3 e3 => ?_)
  · refine ⟨_, stay e1 e3 hd, sz_lt ?_, (e1.trans e3).mutNew' hD, ?_⟩
    · rw [List.length_map]
      have := List.length_filter_le p (List.range i)
      rw [List.length_range] at this
      omega
    · rw [upd_same, List.range_succ, List.filter_append, List.map_append, List.filter_cons_of_pos hp]
      rfl
  · refine ⟨e1.trans e3, ?_⟩
    rw [stay e1 e3 hd, List.range_succ, List.filter_append, List.map_append, List.filter_cons_of_neg (by rw [hp]; exact Bool.false_ne_true)]
    simp
end
end Hz
set_option Elab.async false
set_option linter.all false
namespace Hz
namespace Hill
def L (h : Hill) : Nat := h.year.length
def drop (h : Hill) (k : Nat) : Int := ((h.year[k % h.L]?).map (·.1)).getD 0
def isOpen (h : Hill) (k : Nat) : Bool := ((h.year[k % h.L]?).map (·.2)).getD false
/-- what days below n gave -/
def ge (h : Hill) (n : Nat) : Int := ((n / h.L : Nat) : Int) * h.drops + ((h.year.take (n % h.L)).map (·.1)).sum
/-- what days up to n gave -/
def given (h : Hill) (n : Nat) : Int := h.ge (n + 1)
theorem at_day {h : Hill} (hL : 0 < h.L) (k : Nat) : ∃ d, h.year[k % h.L]? = some d ∧ h.drop k = d.1 ∧ h.isOpen k = d.2 := by
  have hk : k % h.L < h.year.length := Nat.mod_lt _ hL
  refine ⟨h.year[k % h.L], List.getElem?_eq_getElem hk, ?_, ?_⟩
  · unfold drop; rw [List.getElem?_eq_getElem hk]; rfl
  · unfold isOpen; rw [List.getElem?_eq_getElem hk]; rfl
theorem take_sum {l : List (Int × Bool)} {i : Nat} {d : Int × Bool} (h : l[i]? = some d) : ((l.take (i + 1)).map (·.1)).sum = ((l.take i).map (·.1)).sum + d.1 := by
  rw [List.take_add_one, h, List.map_append, List.sum_append]
  simp
theorem ge_succ {h : Hill} (hL : 0 < h.L) (n : Nat) : h.ge (n + 1) = h.ge n + h.drop n := by
  obtain ⟨d, hd, ed, _⟩ := at_day hL n
  have hlt : n % h.L < h.L := Nat.mod_lt _ hL
  unfold ge
  rw [ed]
  by_cases c : n % h.L + 1 < h.L
  · have e1 : (n + 1) / h.L = n / h.L := by
      rw [Nat.succ_div]
      have : ¬ h.L ∣ n + 1 := by
        intro z
        have := Nat.mod_eq_zero_of_dvd z
        rw [Nat.add_mod, Nat.mod_eq_of_lt (show 1 < h.L by omega), Nat.mod_eq_of_lt c] at this
        omega
      rw [if_neg this]; omega
    have e2 : (n + 1) % h.L = n % h.L + 1 := by
      rw [Nat.add_mod, Nat.mod_eq_of_lt (show 1 < h.L by omega), Nat.mod_eq_of_lt c]
    rw [e1, e2, take_sum hd]
    omega
  · have ec : n % h.L + 1 = h.L := by omega
    have en := Nat.div_add_mod n h.L
    have e0 : n + 1 = h.L * (n / h.L + 1) := by rw [Nat.mul_add, Nat.mul_one]; omega
    have e1 : (n + 1) / h.L = n / h.L + 1 := by rw [e0]; exact Nat.mul_div_cancel_left _ hL
    have e2 : (n + 1) % h.L = 0 := by rw [e0]; exact Nat.mul_mod_right _ _
    have e3 : ((h.year.take (n % h.L)).map (·.1)).sum + d.1 = h.drops := by
      rw [← take_sum hd, ec]
      unfold L drops
      rw [List.take_length]
    rw [e1, e2, List.take_zero, List.map_nil, List.sum_nil]
    have e4 : (((n / h.L + 1 : Nat)) : Int) * h.drops = ((n / h.L : Nat) : Int) * h.drops + h.drops := by
      rw [show (((n / h.L + 1 : Nat)) : Int) = ((n / h.L : Nat) : Int) + 1 from rfl, Int.add_mul, Int.one_mul]
    rw [e4]
    omega
theorem given_eq {h : Hill} (hL : 0 < h.L) (n : Nat) : h.given n = ((n / h.L : Nat) : Int) * h.drops + ((h.year.take (n % h.L + 1)).map (·.1)).sum := by
  obtain ⟨d, hd, ed, _⟩ := at_day hL n
  unfold given
  rw [ge_succ hL, ed, take_sum hd]
  unfold ge
  omega
theorem given_succ {h : Hill} (hL : 0 < h.L) (n : Nat) : h.given (n + 1) = h.given n + h.drop (n + 1) := ge_succ hL (n + 1)
/-- days that give nothing below nought -/
def Nn (h : Hill) : Prop := ∀ d, d ∈ h.year → 0 ≤ d.1
theorem drop_nn {h : Hill} (hN : h.Nn) (hL : 0 < h.L) (n : Nat) : 0 ≤ h.drop n := by
  obtain ⟨d, hd, ed, _⟩ := at_day hL n
  rw [ed]
  exact hN d (List.mem_of_getElem? hd)
theorem ge_mono {h : Hill} (hN : h.Nn) (hL : 0 < h.L) {n m : Nat} (l : n ≤ m) : h.ge n ≤ h.ge m := by
  induction m with
  | zero => have : n = 0 := by omega
            subst this; exact Int.le_refl _
  | succ m ih =>
    by_cases c : n = m + 1
    · subst c; exact Int.le_refl _
    · have := ih (by omega)
      have d := drop_nn hN hL m
      rw [ge_succ hL]
      omega
theorem given_mono {h : Hill} (hN : h.Nn) (hL : 0 < h.L) {n m : Nat} (l : n ≤ m) : h.given n ≤ h.given m := ge_mono hN hL (by omega)
theorem ge_year {h : Hill} (hL : 0 < h.L) (n k : Nat) : h.ge (n + k * h.L) = h.ge n + k * h.drops := by
  unfold ge
  rw [Nat.add_mul_mod_self_right, Nat.add_mul_div_right _ _ hL]
  rw [show ((n / h.L + k : Nat) : Int) = ((n / h.L : Nat) : Int) + (k : Int) from rfl, Int.add_mul]
  omega
theorem given_year {h : Hill} (hL : 0 < h.L) (n k : Nat) : h.given (n + k * h.L) = h.given n + k * h.drops := by
  unfold given
  rw [show n + k * h.L + 1 = (n + 1) + k * h.L by omega, ge_year hL]
theorem isOpen_year {h : Hill} (n k : Nat) : h.isOpen (n + k * h.L) = h.isOpen n := by
  unfold isOpen
  rw [Nat.add_mul_mod_self_right]
theorem ge_zero (h : Hill) : h.ge 0 = 0 := by
  unfold ge
  simp
theorem least {P : Nat → Prop} (hd : ∀ n, P n ∨ ¬ P n) (n : Nat) : ∀ m, n ≤ m → P m → ∃ k, n ≤ k ∧ k ≤ m ∧ P k ∧ ∀ j, n ≤ j → j < k → ¬ P j := by
  intro m
  induction m using Nat.strongRecOn with
  | ind m ih =>
    intro hm hp
    by_cases c : ∃ j, n ≤ j ∧ j < m ∧ P j
    · obtain ⟨j, h1, h2, h3⟩ := c
      obtain ⟨k, a, b, p, q⟩ := ih j h2 h1 h3
      exact ⟨k, a, by omega, p, q⟩
    · exact ⟨m, hm, Nat.le_refl _, hp, fun j a b p => c ⟨j, a, b, p⟩⟩
/-- m is the first open day from n on -/
def OpenFrom (h : Hill) (n m : Nat) : Prop := n ≤ m ∧ h.isOpen m = true ∧ ∀ k, n ≤ k → k < m → h.isOpen k = false
theorem openFrom_ex {h : Hill} (hL : 0 < h.L) (ho : ∃ d, d ∈ h.year ∧ d.2 = true) (n : Nat) : ∃ m, h.OpenFrom n m ∧ m < n + h.L := by
  obtain ⟨d, hd, e⟩ := ho
  obtain ⟨j, hj, ej⟩ := List.getElem_of_mem hd
  have hjo : ∀ q, h.isOpen (j + q * h.L) = true := fun q => by
    rw [isOpen_year]
    unfold isOpen
    rw [Nat.mod_eq_of_lt (show j < h.L from hj), List.getElem?_eq_getElem hj, ej]
    exact e
  have hjl : j < h.L := hj
  -- the greatest year's place below n + L
  have en := Nat.div_add_mod n h.L
  have hmod : n % h.L < h.L := Nat.mod_lt _ hL
  have hc : n / h.L * h.L = h.L * (n / h.L) := Nat.mul_comm _ _
  by_cases c : n % h.L ≤ j
  · have h1 : n ≤ j + n / h.L * h.L := by rw [hc]; omega
    obtain ⟨k, a, b, p, q⟩ := least (P := fun k => h.isOpen k = true) (fun k => Decidable.em _) n _ h1 (hjo _)
    exact ⟨k, ⟨a, p, fun i x y => Bool.eq_false_iff.mpr (q i x y)⟩, by rw [hc] at b; omega⟩
  · have h1 : n ≤ j + (n / h.L + 1) * h.L := by rw [Nat.add_mul, hc]; omega
    obtain ⟨k, a, b, p, q⟩ := least (P := fun k => h.isOpen k = true) (fun k => Decidable.em _) n _ h1 (hjo _)
    exact ⟨k, ⟨a, p, fun i x y => Bool.eq_false_iff.mpr (q i x y)⟩, by rw [Nat.add_mul, hc] at b; omega⟩
theorem openFrom_uniq {h : Hill} {n a b : Nat} (x : h.OpenFrom n a) (y : h.OpenFrom n b) : a = b := by
  obtain ⟨x1, x2, x3⟩ := x
  obtain ⟨y1, y2, y3⟩ := y
  rcases Nat.lt_trichotomy a b with c | c | c
  · rw [y3 a x1 c] at x2; cases x2
  · exact c
  · rw [x3 b y1 c] at y2; cases y2
/-- m is the first open day by whose evening t drops were given -/
def DayOf (h : Hill) (t : Int) (m : Nat) : Prop := h.isOpen m = true ∧ t ≤ h.given m ∧ ∀ k, k < m → h.isOpen k = true → h.given k < t
theorem dayOf_uniq {h : Hill} {t : Int} {a b : Nat} (x : h.DayOf t a) (y : h.DayOf t b) : a = b := by
  obtain ⟨x1, x2, x3⟩ := x
  obtain ⟨y1, y2, y3⟩ := y
  rcases Nat.lt_trichotomy a b with c | c | c
  · have := y3 a c x1; omega
  · exact c
  · have := x3 b c y1; omega
theorem dayOf_of {h : Hill} (hN : h.Nn) (hL : 0 < h.L) {t : Int} {p m : Nat} (h1 : t ≤ h.given p) (h2 : ∀ k, k < p → h.given k < t) (h3 : h.OpenFrom p m) : h.DayOf t m := by
  obtain ⟨a, b, c⟩ := h3
  refine ⟨b, Int.le_trans h1 (given_mono hN hL a), fun k hk ho => ?_⟩
  by_cases d : k < p
  · exact h2 k d
  · rw [c k (by omega) hk] at ho; cases ho
theorem ge_at {h : Hill} (hL : 0 < h.L) (y j : Nat) (hj : j < h.L) : h.ge (y * h.L + j) = y * h.drops + ((h.year.take j).map (·.1)).sum := by
  unfold ge
  rw [Nat.add_comm, Nat.add_mul_div_right _ _ hL, Nat.add_mul_mod_self_right, Nat.div_eq_of_lt hj, Nat.mod_eq_of_lt hj, Nat.zero_add]
theorem drop_at {h : Hill} (y j : Nat) (hj : j < h.L) : h.drop (y * h.L + j) = (h.year[j]'hj).1 := by
  unfold drop
  rw [Nat.add_comm, Nat.add_mul_mod_self_right, Nat.mod_eq_of_lt hj, List.getElem?_eq_getElem hj]
  rfl
theorem dayOf_ex {h : Hill} (hN : h.Nn) (hL : 0 < h.L) (ho : ∃ d, d ∈ h.year ∧ d.2 = true) (hd : 0 < h.drops) (t : Int) : ∃ m, h.DayOf t m := by
  obtain ⟨m0, ⟨a, b, _⟩, _⟩ := openFrom_ex hL ho (t.toNat * h.L)
  have h1 : t ≤ h.given m0 := by
    have e := ge_at hL t.toNat 0 hL
    rw [Nat.add_zero, List.take_zero, List.map_nil, List.sum_nil] at e
    have m := ge_mono hN hL (show t.toNat * h.L ≤ m0 + 1 by omega)
    have z : (t.toNat : Int) * 1 ≤ (t.toNat : Int) * h.drops := Int.mul_le_mul_of_nonneg_left (by omega) (by omega)
    show t ≤ h.ge (m0 + 1)
    omega
  obtain ⟨k, _, _, p, q⟩ := least (P := fun k => h.isOpen k = true ∧ t ≤ h.given k) (fun k => Decidable.em _) 0 m0 (Nat.zero_le _) ⟨b, h1⟩
  refine ⟨k, p.1, p.2, fun j hj ho => ?_⟩
  have := q j (Nat.zero_le _) hj
  refine Int.not_le.mp fun z => this ⟨ho, z⟩
end Hill
end Hz
set_option Elab.async false
set_option linter.all false
set_option maxRecDepth 100000
set_option maxHeartbeats 4000000
namespace Z28
open PySem PySem.Spec PyProof.Rows L2 Hz
def topS (i : Nat) : Stmt := PySem.Challenge.pw_honeyturns_k28_back_by_hand.main.body.getD i (.Pass ⟨0, 0, 0, 0⟩)
abbrev s_year_drops : Stmt := topS 1
abbrev N_year_drops : List Str := ["hill", "day"]
abbrev P_year_drops : List Str := ["hill"]
theorem sc_year_drops : FnScope N_year_drops P_year_drops (defScope s_year_drops) := ⟨rfl, rfl, rfl, by decide +kernel, rfl, by decide +kernel, by decide +kernel⟩
abbrev s_given_by : Stmt := topS 2
abbrev N_given_by : List Str := ["hill", "day", "year", "years", "last", "part"]
abbrev P_given_by : List Str := ["hill", "day"]
theorem sc_given_by : FnScope N_given_by P_given_by (defScope s_given_by) := ⟨rfl, rfl, rfl, by decide +kernel, rfl, by decide +kernel, by decide +kernel⟩
abbrev s_open_from : Stmt := topS 3
abbrev N_open_from : List Str := ["hill", "day", "year"]
abbrev P_open_from : List Str := ["hill", "day"]
theorem sc_open_from : FnScope N_open_from P_open_from (defScope s_open_from) := ⟨rfl, rfl, rfl, by decide +kernel, rfl, by decide +kernel, by decide +kernel⟩
abbrev s_day_of : Stmt := topS 4
abbrev N_day_of : List Str := ["hill", "drops", "year", "years", "before", "missing", "place"]
abbrev P_day_of : List Str := ["hill", "drops"]
theorem sc_day_of : FnScope N_day_of P_day_of (defScope s_day_of) := ⟨rfl, rfl, rfl, by decide +kernel, rfl, by decide +kernel, by decide +kernel⟩
abbrev s_given_next : Stmt := topS 6
abbrev N_given_next : List Str := ["hill", "number"]
abbrev P_given_next : List Str := ["hill", "number"]
theorem sc_given_next : FnScope N_given_next P_given_next (defScope s_given_next) := ⟨rfl, rfl, rfl, by decide +kernel, rfl, by decide +kernel, by decide +kernel⟩
abbrev s_stretches : Stmt := topS 7
abbrev N_stretches : List Str := ["hill", "year", "most", "around", "found", "day", "low", "wide"]
abbrev P_stretches : List Str := ["hill"]
theorem sc_stretches : FnScope N_stretches P_stretches (defScope s_stretches) := ⟨rfl, rfl, rfl, by decide +kernel, rfl, by decide +kernel, by decide +kernel⟩
abbrev s_open_until : Stmt := topS 9
abbrev N_open_until : List Str := ["hill", "day", "year"]
abbrev P_open_until : List Str := ["hill", "day"]
theorem sc_open_until : FnScope N_open_until P_open_until (defScope s_open_until) := ⟨rfl, rfl, rfl, by decide +kernel, rfl, by decide +kernel, by decide +kernel⟩
abbrev s_number_back : Stmt := topS 11
abbrev N_number_back : List Str := ["places", "around", "line", "low", "high", "past"]
abbrev P_number_back : List Str := ["places", "around", "line"]
theorem sc_number_back : FnScope N_number_back P_number_back (defScope s_number_back) := ⟨rfl, rfl, rfl, by decide +kernel, rfl, by decide +kernel, by decide +kernel⟩
abbrev s_latest_line : Stmt := topS 12
abbrev N_latest_line : List Str := ["hill", "ant", "many", "line", "needs", "places", "around", "past"]
abbrev P_latest_line : List Str := ["hill", "ant", "many", "line"]
theorem sc_latest_line : FnScope N_latest_line P_latest_line (defScope s_latest_line) := ⟨rfl, rfl, rfl, by decide +kernel, rfl, by decide +kernel, by decide +kernel⟩
abbrev s_least_pot : Stmt := topS 13
abbrev N_least_pot : List Str := ["hill", "day", "ant", "many", "by", "latest", "pot"]
abbrev P_least_pot : List Str := ["hill", "day", "ant", "many", "by"]
theorem sc_least_pot : FnScope N_least_pot P_least_pot (defScope s_least_pot) := ⟨rfl, rfl, rfl, by decide +kernel, rfl, by decide +kernel, by decide +kernel⟩
abbrev s_line_bounds : Stmt := topS 14
abbrev N_line_bounds : List Str := ["hill", "day", "evenings", "given", "bounds", "evening", "above"]
abbrev P_line_bounds : List Str := ["hill", "day", "evenings"]
theorem sc_line_bounds : FnScope N_line_bounds P_line_bounds (defScope s_line_bounds) := ⟨rfl, rfl, rfl, by decide +kernel, rfl, by decide +kernel, by decide +kernel⟩
abbrev s_pots_seen : Stmt := topS 15
abbrev N_pots_seen : List Str := ["hill", "day", "ant", "evenings", "bounds", "needs", "places", "around", "above", "upto", "past", "need", "given"]
abbrev P_pots_seen : List Str := ["hill", "day", "ant", "evenings"]
theorem sc_pots_seen : FnScope N_pots_seen P_pots_seen (defScope s_pots_seen) := ⟨rfl, rfl, rfl, by decide +kernel, rfl, by decide +kernel, by decide +kernel⟩
abbrev s__law_box : Stmt := topS 17
abbrev N__law_box : List Str := ["_law_script", "_law_k", "_law_cell"]
abbrev P__law_box : List Str := ["_law_script", "_law_k"]
theorem sc__law_box : FnScope N__law_box P__law_box (defScope s__law_box) := ⟨rfl, rfl, rfl, by decide +kernel, rfl, by decide +kernel, by decide +kernel⟩
abbrev s__law_take : Stmt := topS 18
abbrev N__law_take : List Str := ["_law_box_here", "_law_size", "_law_found", "_law_stir", "_law_once", "_law_twice"]
abbrev P__law_take : List Str := ["_law_box_here", "_law_size"]
theorem sc__law_take : FnScope N__law_take P__law_take (defScope s__law_take) := ⟨rfl, rfl, rfl, by decide +kernel, rfl, by decide +kernel, by decide +kernel⟩
abbrev s__law_folded : Stmt := topS 19
abbrev N__law_folded : List Str := ["_law_script", "_law_size", "_law_cells", "_law_k", "_law_cell"]
abbrev P__law_folded : List Str := ["_law_script", "_law_size"]
theorem sc__law_folded : FnScope N__law_folded P__law_folded (defScope s__law_folded) := ⟨rfl, rfl, rfl, by decide +kernel, rfl, by decide +kernel, by decide +kernel⟩
abbrev s__law_same : Stmt := topS 20
abbrev N__law_same : List Str := ["_law_found", "_law_wanted", "_law_mine", "_law_its"]
abbrev P__law_same : List Str := ["_law_found", "_law_wanted"]
theorem sc__law_same : FnScope N__law_same P__law_same (defScope s__law_same) := ⟨rfl, rfl, rfl, by decide +kernel, rfl, by decide +kernel, by decide +kernel⟩
abbrev s__law_of : Stmt := topS 21
abbrev N__law_of : List Str := ["_law_box_here", "_law_some"]
abbrev P__law_of : List Str := ["_law_box_here", "_law_some"]
theorem sc__law_of : FnScope N__law_of P__law_of (defScope s__law_of) := ⟨rfl, rfl, rfl, by decide +kernel, rfl, by decide +kernel, by decide +kernel⟩
abbrev s__law_hill_of : Stmt := topS 22
abbrev N__law_hill_of : List Str := ["_law_size", "_law_cap"]
abbrev P__law_hill_of : List Str := ["_law_size", "_law_cap"]
theorem sc__law_hill_of : FnScope N__law_hill_of P__law_hill_of (defScope s__law_hill_of) := ⟨rfl, rfl, rfl, by decide +kernel, rfl, by decide +kernel, by decide +kernel⟩
abbrev s__law_bare_right : Stmt := topS 23
abbrev N__law_bare_right : List Str := ["_law_nest", "_law_size", "_law_count", "_law_years0", "_law_at", "_law_told"]
abbrev P__law_bare_right : List Str := ["_law_nest", "_law_size", "_law_count", "_law_years0"]
theorem sc__law_bare_right : FnScope N__law_bare_right P__law_bare_right (defScope s__law_bare_right) := ⟨rfl, rfl, rfl, by decide +kernel, rfl, by decide +kernel, by decide +kernel⟩
abbrev s__law_pots_right : Stmt := topS 24
abbrev N__law_pots_right : List Str := ["_law_nest", "_law_size", "_law_years0", "_law_dawn", "_law_told", "_law_count", "_law_seen"]
abbrev P__law_pots_right : List Str := ["_law_nest", "_law_size", "_law_years0"]
theorem sc__law_pots_right : FnScope N__law_pots_right P__law_pots_right (defScope s__law_pots_right) := ⟨rfl, rfl, rfl, by decide +kernel, rfl, by decide +kernel, by decide +kernel⟩
abbrev s_law : Stmt := topS 25
abbrev N_law : List Str := ["_law_script", "_law_cells", "_law_k", "_law_box_here", "_law_size", "_law_again", "_law_count", "_law_years0"]
abbrev P_law : List Str := ["_law_script"]
theorem sc_law : FnScope N_law P_law (defScope s_law) := ⟨rfl, rfl, rfl, by decide +kernel, rfl, by decide +kernel, by decide +kernel⟩
structure Txt (K : PySem.W.Frag) (mg : Str → Option Value) where
  a_year_drops : Addr
  d_year_drops : FuncData
  F_year_drops : Fun K "year_drops" "year_drops" s_year_drops a_year_drops d_year_drops
  m_year_drops : mg "year_drops" = some (.ref a_year_drops)
  a_given_by : Addr
  d_given_by : FuncData
  F_given_by : Fun K "given_by" "given_by" s_given_by a_given_by d_given_by
  m_given_by : mg "given_by" = some (.ref a_given_by)
  a_open_from : Addr
  d_open_from : FuncData
  F_open_from : Fun K "open_from" "open_from" s_open_from a_open_from d_open_from
  m_open_from : mg "open_from" = some (.ref a_open_from)
  a_day_of : Addr
  d_day_of : FuncData
  F_day_of : Fun K "day_of" "day_of" s_day_of a_day_of d_day_of
  m_day_of : mg "day_of" = some (.ref a_day_of)
  a_given_next : Addr
  d_given_next : FuncData
  F_given_next : Fun K "given_next" "given_next" s_given_next a_given_next d_given_next
  m_given_next : mg "given_next" = some (.ref a_given_next)
  a_stretches : Addr
  d_stretches : FuncData
  F_stretches : Fun K "stretches" "stretches" s_stretches a_stretches d_stretches
  m_stretches : mg "stretches" = some (.ref a_stretches)
  a_open_until : Addr
  d_open_until : FuncData
  F_open_until : Fun K "open_until" "open_until" s_open_until a_open_until d_open_until
  m_open_until : mg "open_until" = some (.ref a_open_until)
  a_number_back : Addr
  d_number_back : FuncData
  F_number_back : Fun K "number_back" "number_back" s_number_back a_number_back d_number_back
  m_number_back : mg "number_back" = some (.ref a_number_back)
  a_latest_line : Addr
  d_latest_line : FuncData
  F_latest_line : Fun K "latest_line" "latest_line" s_latest_line a_latest_line d_latest_line
  m_latest_line : mg "latest_line" = some (.ref a_latest_line)
  a_least_pot : Addr
  d_least_pot : FuncData
  F_least_pot : Fun K "least_pot" "least_pot" s_least_pot a_least_pot d_least_pot
  m_least_pot : mg "least_pot" = some (.ref a_least_pot)
  a_line_bounds : Addr
  d_line_bounds : FuncData
  F_line_bounds : Fun K "line_bounds" "line_bounds" s_line_bounds a_line_bounds d_line_bounds
  m_line_bounds : mg "line_bounds" = some (.ref a_line_bounds)
  a_pots_seen : Addr
  d_pots_seen : FuncData
  F_pots_seen : Fun K "pots_seen" "pots_seen" s_pots_seen a_pots_seen d_pots_seen
  m_pots_seen : mg "pots_seen" = some (.ref a_pots_seen)
  a__law_box : Addr
  d__law_box : FuncData
  F__law_box : Fun K "_law_box" "_law_box" s__law_box a__law_box d__law_box
  m__law_box : mg "_law_box" = some (.ref a__law_box)
  a__law_take : Addr
  d__law_take : FuncData
  F__law_take : Fun K "_law_take" "_law_take" s__law_take a__law_take d__law_take
  m__law_take : mg "_law_take" = some (.ref a__law_take)
  a__law_folded : Addr
  d__law_folded : FuncData
  F__law_folded : Fun K "_law_folded" "_law_folded" s__law_folded a__law_folded d__law_folded
  m__law_folded : mg "_law_folded" = some (.ref a__law_folded)
  a__law_same : Addr
  d__law_same : FuncData
  F__law_same : Fun K "_law_same" "_law_same" s__law_same a__law_same d__law_same
  m__law_same : mg "_law_same" = some (.ref a__law_same)
  a__law_of : Addr
  d__law_of : FuncData
  F__law_of : Fun K "_law_of" "_law_of" s__law_of a__law_of d__law_of
  m__law_of : mg "_law_of" = some (.ref a__law_of)
  a__law_hill_of : Addr
  d__law_hill_of : FuncData
  F__law_hill_of : Fun K "_law_hill_of" "_law_hill_of" s__law_hill_of a__law_hill_of d__law_hill_of
  m__law_hill_of : mg "_law_hill_of" = some (.ref a__law_hill_of)
  a__law_bare_right : Addr
  d__law_bare_right : FuncData
  F__law_bare_right : Fun K "_law_bare_right" "_law_bare_right" s__law_bare_right a__law_bare_right d__law_bare_right
  m__law_bare_right : mg "_law_bare_right" = some (.ref a__law_bare_right)
  a__law_pots_right : Addr
  d__law_pots_right : FuncData
  F__law_pots_right : Fun K "_law_pots_right" "_law_pots_right" s__law_pots_right a__law_pots_right d__law_pots_right
  m__law_pots_right : mg "_law_pots_right" = some (.ref a__law_pots_right)
  a_law : Addr
  d_law : FuncData
  F_law : Fun K "law" "law" s_law a_law d_law
  m_law : mg "law" = some (.ref a_law)
  z_len : mg "len" = none
  z_abs : mg "abs" = none
  z_divmod : mg "divmod" = none
  z_sum : mg "sum" = none
  z_all : mg "all" = none
  z_int : mg "int" = none
  z_bool : mg "bool" = none
  z_list : mg "list" = none
  z_tuple : mg "tuple" = none
  z_str : mg "str" = none
  z_max : mg "max" = none
  z_min : mg "min" = none
  z_isinstance : mg "isinstance" = none
  z_range : mg "range" = none
  z_enumerate : mg "enumerate" = none
  z_zip : mg "zip" = none
  z_set : mg "set" = none
  z_sorted : mg "sorted" = none
section
variable {K : PySem.W.Frag} {mg : Str → Option Value}
theorem Txt.k_year_drops (T : Txt K mg) : PySem.W.keepIn K (.ref T.a_year_drops) = true := T.F_year_drops.kp
theorem Txt.b_year_drops (T : Txt K mg) : Binds K T.d_year_drops P_year_drops [] := T.F_year_drops.binds fun _ _ _ _ _ _ us hl => match us, hl with | [_], _ => rfl
theorem Txt.k_given_by (T : Txt K mg) : PySem.W.keepIn K (.ref T.a_given_by) = true := T.F_given_by.kp
theorem Txt.b_given_by (T : Txt K mg) : Binds K T.d_given_by P_given_by [] := T.F_given_by.binds fun _ _ _ _ _ _ us hl => match us, hl with | [_, _], _ => rfl
theorem Txt.k_open_from (T : Txt K mg) : PySem.W.keepIn K (.ref T.a_open_from) = true := T.F_open_from.kp
theorem Txt.b_open_from (T : Txt K mg) : Binds K T.d_open_from P_open_from [] := T.F_open_from.binds fun _ _ _ _ _ _ us hl => match us, hl with | [_, _], _ => rfl
theorem Txt.k_day_of (T : Txt K mg) : PySem.W.keepIn K (.ref T.a_day_of) = true := T.F_day_of.kp
theorem Txt.b_day_of (T : Txt K mg) : Binds K T.d_day_of P_day_of [] := T.F_day_of.binds fun _ _ _ _ _ _ us hl => match us, hl with | [_, _], _ => rfl
theorem Txt.k_given_next (T : Txt K mg) : PySem.W.keepIn K (.ref T.a_given_next) = true := T.F_given_next.kp
theorem Txt.b_given_next (T : Txt K mg) : Binds K T.d_given_next P_given_next [] := T.F_given_next.binds fun _ _ _ _ _ _ us hl => match us, hl with | [_, _], _ => rfl
theorem Txt.k_stretches (T : Txt K mg) : PySem.W.keepIn K (.ref T.a_stretches) = true := T.F_stretches.kp
theorem Txt.b_stretches (T : Txt K mg) : Binds K T.d_stretches P_stretches [] := T.F_stretches.binds fun _ _ _ _ _ _ us hl => match us, hl with | [_], _ => rfl
theorem Txt.k_open_until (T : Txt K mg) : PySem.W.keepIn K (.ref T.a_open_until) = true := T.F_open_until.kp
theorem Txt.b_open_until (T : Txt K mg) : Binds K T.d_open_until P_open_until [] := T.F_open_until.binds fun _ _ _ _ _ _ us hl => match us, hl with | [_, _], _ => rfl
theorem Txt.k_number_back (T : Txt K mg) : PySem.W.keepIn K (.ref T.a_number_back) = true := T.F_number_back.kp
theorem Txt.b_number_back (T : Txt K mg) : Binds K T.d_number_back P_number_back [] := T.F_number_back.binds fun _ _ _ _ _ _ us hl => match us, hl with | [_, _, _], _ => rfl
theorem Txt.k_latest_line (T : Txt K mg) : PySem.W.keepIn K (.ref T.a_latest_line) = true := T.F_latest_line.kp
theorem Txt.b_latest_line (T : Txt K mg) : Binds K T.d_latest_line P_latest_line [] := T.F_latest_line.binds fun _ _ _ _ _ _ us hl => match us, hl with | [_, _, _, _], _ => rfl
theorem Txt.k_least_pot (T : Txt K mg) : PySem.W.keepIn K (.ref T.a_least_pot) = true := T.F_least_pot.kp
theorem Txt.b_least_pot (T : Txt K mg) : Binds K T.d_least_pot P_least_pot [] := T.F_least_pot.binds fun _ _ _ _ _ _ us hl => match us, hl with | [_, _, _, _, _], _ => rfl
theorem Txt.k_line_bounds (T : Txt K mg) : PySem.W.keepIn K (.ref T.a_line_bounds) = true := T.F_line_bounds.kp
theorem Txt.b_line_bounds (T : Txt K mg) : Binds K T.d_line_bounds P_line_bounds [] := T.F_line_bounds.binds fun _ _ _ _ _ _ us hl => match us, hl with | [_, _, _], _ => rfl
theorem Txt.k_pots_seen (T : Txt K mg) : PySem.W.keepIn K (.ref T.a_pots_seen) = true := T.F_pots_seen.kp
theorem Txt.b_pots_seen (T : Txt K mg) : Binds K T.d_pots_seen P_pots_seen [] := T.F_pots_seen.binds fun _ _ _ _ _ _ us hl => match us, hl with | [_, _, _, _], _ => rfl
theorem Txt.k__law_box (T : Txt K mg) : PySem.W.keepIn K (.ref T.a__law_box) = true := T.F__law_box.kp
theorem Txt.b__law_box (T : Txt K mg) : Binds K T.d__law_box P__law_box [] := T.F__law_box.binds fun _ _ _ _ _ _ us hl => match us, hl with | [_, _], _ => rfl
theorem Txt.k__law_take (T : Txt K mg) : PySem.W.keepIn K (.ref T.a__law_take) = true := T.F__law_take.kp
theorem Txt.b__law_take (T : Txt K mg) : Binds K T.d__law_take P__law_take [] := T.F__law_take.binds fun _ _ _ _ _ _ us hl => match us, hl with | [_, _], _ => rfl
theorem Txt.k__law_folded (T : Txt K mg) : PySem.W.keepIn K (.ref T.a__law_folded) = true := T.F__law_folded.kp
theorem Txt.b__law_folded (T : Txt K mg) : Binds K T.d__law_folded P__law_folded [] := T.F__law_folded.binds fun _ _ _ _ _ _ us hl => match us, hl with | [_, _], _ => rfl
theorem Txt.k__law_same (T : Txt K mg) : PySem.W.keepIn K (.ref T.a__law_same) = true := T.F__law_same.kp
theorem Txt.b__law_same (T : Txt K mg) : Binds K T.d__law_same P__law_same [] := T.F__law_same.binds fun _ _ _ _ _ _ us hl => match us, hl with | [_, _], _ => rfl
theorem Txt.k__law_of (T : Txt K mg) : PySem.W.keepIn K (.ref T.a__law_of) = true := T.F__law_of.kp
theorem Txt.b__law_of (T : Txt K mg) : Binds K T.d__law_of P__law_of [] := T.F__law_of.binds fun _ _ _ _ _ _ us hl => match us, hl with | [_, _], _ => rfl
theorem Txt.k__law_hill_of (T : Txt K mg) : PySem.W.keepIn K (.ref T.a__law_hill_of) = true := T.F__law_hill_of.kp
theorem Txt.b__law_hill_of (T : Txt K mg) : Binds K T.d__law_hill_of P__law_hill_of [] := T.F__law_hill_of.binds fun _ _ _ _ _ _ us hl => match us, hl with | [_, _], _ => rfl
theorem Txt.k__law_bare_right (T : Txt K mg) : PySem.W.keepIn K (.ref T.a__law_bare_right) = true := T.F__law_bare_right.kp
theorem Txt.b__law_bare_right (T : Txt K mg) : Binds K T.d__law_bare_right P__law_bare_right [] := T.F__law_bare_right.binds fun _ _ _ _ _ _ us hl => match us, hl with | [_, _, _, _], _ => rfl
theorem Txt.k__law_pots_right (T : Txt K mg) : PySem.W.keepIn K (.ref T.a__law_pots_right) = true := T.F__law_pots_right.kp
theorem Txt.b__law_pots_right (T : Txt K mg) : Binds K T.d__law_pots_right P__law_pots_right [] := T.F__law_pots_right.binds fun _ _ _ _ _ _ us hl => match us, hl with | [_, _, _], _ => rfl
theorem Txt.k_law (T : Txt K mg) : PySem.W.keepIn K (.ref T.a_law) = true := T.F_law.kp
theorem Txt.b_law (T : Txt K mg) : Binds K T.d_law P_law [] := T.F_law.binds fun _ _ _ _ _ _ us hl => match us, hl with | [_], _ => rfl
end

end Z28
set_option Elab.async false
set_option linter.all false
set_option maxRecDepth 100000
set_option maxHeartbeats 4000000
namespace Z28
open PySem PySem.Spec PyProof.Rows L2 Hz
section
variable {P : Program} {w : World} {K : PySem.W.Frag} {mg : Str → Option Value} {base : Heap}
local macro_rules | `(tactic| walk_at "go") => `(tactic| repeat (first | refine ⟨_, rfl, ?_⟩ | refine ⟨_, _, rfl, rfl, ?_⟩ | refine ⟨_, _, rfl, .inl (by assumption), ?_⟩ | refine ⟨(by show (0 : Int) < _; first | decide | omega), ?_⟩ | refine ⟨(by first | exact Or.inl ⟨by decide, by decide⟩ | exact Or.inr ⟨by decide, by decide⟩ | exact Or.inl ⟨by omega, by omega⟩ | exact Or.inr ⟨by omega, by omega⟩), ?_⟩ | refine ⟨divw_of (by decide) (by decide), ?_⟩ | refine ⟨⟨by decide, by decide, by decide⟩, ?_⟩ | refine Or.inr ⟨_, rfl, ?_⟩ | refine z_ixL (by assumption) rfl ?_ | refine z_ixL upd_same rfl ?_ | refine ⟨_, _, _, _, rfl, rfl, by assumption, rfl, ?_⟩))
/-- a new box -/
def spBox (K : PySem.W.Frag) : Sp := fun vs H Q _ => ∃ (a : Addr) (ns : List Int) (k : Nat), vs = [.ref a, .int k] ∧ SqL K H a (ns.map V.int) ∧ k < 64 ∧
  ∀ p H', H p = none → Ex [] H H' → Bx p 0 H' → Q (.ref p) H'
theorem ok_box (T : Txt K mg) : FnOk P w K mg base CX0 1 T.a__law_box T.d__law_box P__law_box (spBox K) := by
  have nd := sc__law_box.nd
  refine T.F__law_box.ok sc__law_box (fun vs H Q E h => ?_) (fun cdv A outer s H vs Q E hr h => ?_)
  · obtain ⟨a, ns, k, rfl, _⟩ := h
    rfl
  · obtain ⟨a, ns, k, rfl, hS, hk, q⟩ := h
    refine ⟨_, (pss_cons (ps_set (i := 2) nd rfl (Or.inl rfl) (pe_ifExp (pt_cmpR op_lt (pv 1) (pe_callB (lenK K) (by rfl) T.z_len (by decide +kernel) (pa_cons (pv 0) pa_nil)) (nomark _)) (pe_ix (ixK K) (pv 0) (pv 1) (fun _ _ => rfl)) pe_int))
      (pss_one (ps_ret (pe_lst (pa_cons (pe_op op_mul (pe_callB call_abs (by rfl) T.z_abs (by decide +kernel) (pa_cons (pv 2) pa_nil)) (pe_callTy call_int1 (by rfl) T.z_int (by decide +kernel) (pa_cons (pe_cmpR op_ge (pe_callB call_abs (by rfl) T.z_abs (by decide +kernel) (pa_cons (pv 2) pa_nil)) (pe_op op_pow pe_int pe_int) (nomark _)) pa_nil))) (pa_cons (pe_op op_mod (pe_op op_mul (pe_op op_add (pe_op op_add (pe_op op_mod (pv 2) pe_int) (pe_op op_mul pe_int (pv 1))) pe_int) pe_int) pe_int) (pa_cons pe_int pa_nil))))))), ?_⟩
    have fin : ∀ (c : Int) (b : Bool) (p : Addr), H p = none → Q (.ref p) (upd H p (.lst [.int ((if c < 0 then -c else c) * (if b = true then 1 else 0)), .int ((c % 2147483629 + 15485863 * k + 43) * 48271 % 2147483647), .int 0])) := fun c b p hp => by
      refine q p _ hp (Ex.new hp) ⟨_, _, _, upd_same, ?_, by omega, by omega, by omega, by omega⟩
      cases b <;> simp <;> split <;> omega
    walk_at "go"
    refine ite2 (fun c => ?_) (fun c => ?_)
    · have c' : k < ns.length := by
        have := of_decide_eq_true c
        rw [List.length_map] at this
        omega
      walk_at "go"
      refine z_ix (.inl hS) (v := .int ns[k]) (atI_nat (by rw [List.getElem?_map, List.getElem?_eq_getElem c'] <;> rfl)) ?_
      walk_at "go"
      exact ⟨(by show 3 ≤ sizeLine; decide), fun p hp => fin _ _ p hp⟩
    · walk_at "go"
      exact ⟨(by show 3 ≤ sizeLine; decide), fun p hp => fin 0 _ p hp⟩
/-- a number below size out of the box -/
def spTake (N : Nat) : Sp := fun vs H Q _ => ∃ (b : Addr) (size : Int) (n : Nat), vs = [.ref b, .int size] ∧ Bx b n H ∧ n + 2 ^ (N + 1) ≤ 2 ^ 40 ∧ 1 ≤ size ∧ size ≤ (10 ^ 7) ^ (N + 1) ∧ N ≤ 4 ∧
  ∀ r H', 0 ≤ r → r < size → Ex [b] H H' → Bx b (n + 2 ^ N) H' → Q (.int r) H'
theorem ok_take_one (T : Txt K mg) (N : Nat) (sp' : Sp) (G__law_take : FnOk P w K mg base CX0 N T.a__law_take T.d__law_take P__law_take sp') (hsp : N = 0 ∨ ∃ M, N = M + 1 ∧ sp' = spTake M) :
    FnOk P w K mg base CX0 (N + 1) T.a__law_take T.d__law_take P__law_take (spTake N) := by
  have nd := sc__law_take.nd
  refine T.F__law_take.ok sc__law_take (fun vs H Q E h => ?_) (fun cdv A outer s H vs Q E hr h => ?_)
  · obtain ⟨b, size, n, rfl, _⟩ := h
    rfl
  · obtain ⟨b, size, n, rfl, hB, hn, h1, h2, hN, q⟩ := h
    have hr__law_take := hr
    have h60 : size ≤ 10 ^ 60 := by
      have e : ((10 : Int) ^ 7) ^ (N + 1) ≤ 10 ^ 60 := by
        have : N = 0 ∨ N = 1 ∨ N = 2 ∨ N = 3 ∨ N = 4 := by omega
        rcases this with rfl | rfl | rfl | rfl | rfl <;> decide
      omega
    have hp1 : 1 ≤ 2 ^ N := Nat.one_le_two_pow
    have hB0 := hB
    obtain ⟨x, y, c, hb, hx, hy0, hy1, hc0, hc1⟩ := hB
    refine ⟨_, (pss_cons (ps_if (pt_cmpR op_gt (pe_ix (ixK K) (pv 0) pe_int (fun _ _ => rfl)) pe_int (nomark _)) (pss_cons (ps_asg (pe_callB call_divmodW (by rfl) T.z_divmod (by decide +kernel) (pa_cons (pe_ix (ixK K) (pv 0) pe_int (fun _ _ => rfl)) (pa_cons (pv 1) pa_nil))) (pg_tupK K 2 (by rfl) (pgs_cons (pg_sub (pv 0) pe_int set_list) (pgs_cons (pg_name (i := 2) nd rfl (Or.inl rfl)) pgs_nil))))
      (pss_one (ps_ret (pv 2)))) pss_nil)
      (pss_cons (ps_if (pt_cmpR op_gt (pv 1) (pe_op op_pow pe_int pe_int) (nomark _)) (pss_one (ps_ret (pe_op op_mod (pe_op op_add (pe_call G__law_take hr__law_take (by rfl) T.m__law_take T.k__law_take T.b__law_take .nil pass0 (pa_cons (pv 0) (pa_cons (pe_op op_pow pe_int pe_int) pa_nil))) (pe_op op_mul (pe_op op_pow pe_int pe_int) (pe_call G__law_take hr__law_take (by rfl) T.m__law_take T.k__law_take T.b__law_take .nil pass0 (pa_cons (pv 0) (pa_cons (pe_op op_add (pe_op op_fdivW (pe_op op_sub (pv 1) pe_int) (pe_op op_pow pe_int pe_int)) pe_int) pa_nil))))) (pv 1)))) pss_nil)
      (pss_cons (ps_asg (pe_op op_add (pe_ix (ixK K) (pv 0) pe_int (fun _ _ => rfl)) pe_int) (pg_sub (pv 0) pe_int set_list))
      (pss_cons (ps_set (i := 3) nd rfl (Or.inl rfl) (pe_op op_add pe_int (pe_op op_mul (pe_ix (ixK K) (pv 0) pe_int (fun _ _ => rfl)) (pe_ix (ixK K) (pv 0) pe_int (fun _ _ => rfl)))))
      (pss_cons (ps_set (i := 4) nd rfl (Or.inl rfl) (pe_op op_mod (pe_op op_mul (pe_op op_add (pe_ix (ixK K) (pv 0) pe_int (fun _ _ => rfl)) (pe_op op_mul pe_int (pe_ix (ixK K) (pv 0) pe_int (fun _ _ => rfl)))) (pv 3)) pe_int))
      (pss_cons (ps_set (i := 5) nd rfl (Or.inl rfl) (pe_op op_mod (pe_op op_add (pe_op op_mul (pv 4) (pe_op op_add (pe_op op_mod (pv 4) pe_int) pe_int)) (pe_ix (ixK K) (pv 0) pe_int (fun _ _ => rfl))) pe_int))
      (pss_one (ps_ret (pe_op op_mod (pe_op op_fdivW (pe_op op_mod (pe_op op_mul (pv 5) (pe_op op_add (pe_op op_mod (pv 5) pe_int) pe_int)) pe_int) pe_int) (pv 1)))))))))), ?_⟩
    walk_at "go"
    refine ite2 (fun c1 => ?_) (fun c1 => ?_)
    · have x0 : 0 < x := of_decide_eq_true c1
      walk_at "go"
      refine ⟨_, _, rfl, divp_of (by omega) h60, fun p hp => ?_⟩
      have hbp : b ≠ p := ne_of_none hb hp
      refine ⟨p, _, rfl, SqT.of upd_same, rfl, _, _, rfl, _, rfl, b, _, _, 0, rfl, rfl, (by rw [upd_ne hbp]; exact hb), rfl, ?_⟩
      refine ⟨_, _, rfl, rfl, ?_⟩
      walk_at "go"
      refine q _ _ (Int.emod_nonneg _ (by omega)) (Int.emod_lt_of_pos _ (by omega)) ((Ex.new hp).trans (Ex.mut (by simp))) ⟨_, _, _, upd_same, ?_, hy0, hy1, hc0, by omega⟩
      exact Int.ediv_nonneg hx (by omega)
    · have x0 : x = 0 := by
        have := of_decide_eq_false (Bool.eq_false_iff.mpr c1)
        omega
      walk_at "go"
      refine ite2 (fun c2 => ?_) (fun c2 => ?_)
      · have s7 : 10 ^ 7 < size := of_decide_eq_true c2
        rcases hsp with rfl | ⟨M, rfl, rfl⟩
        · exfalso
          have : size ≤ 10 ^ 7 := h2
          omega
        · have e2 : 2 ^ (M + 1) = 2 * 2 ^ M := by rw [Nat.pow_succ]; omega
          have e3 : 2 ^ (M + 1 + 1) = 4 * 2 ^ M := by rw [Nat.pow_succ, Nat.pow_succ]; omega
          have hM : 1 ≤ 2 ^ M := Nat.one_le_two_pow
          have big : (10 : Int) ^ 7 ≤ (10 ^ 7) ^ (M + 1) := by
            have : M = 0 ∨ M = 1 ∨ M = 2 ∨ M = 3 := by omega
            rcases this with rfl | rfl | rfl | rfl <;> decide
          have e4 : ((10 : Int) ^ 7) ^ (M + 1 + 1) = (10 ^ 7) ^ (M + 1) * 10 ^ 7 := Int.pow_succ ..
          walk_at "go"
          refine ⟨b, _, n, rfl, hB0, by omega, (by decide), big, by omega, fun r1 H1 r10 r11 x1 B1 => ?_⟩
          walk_at "go"
          refine ⟨b, _, n + 2 ^ M, rfl, B1, by omega, ?_, ?_, by omega, fun r2 H2 r20 r21 x2 B2 => ?_⟩
          · have := Int.ediv_nonneg (show (0 : Int) ≤ size - 1 by omega) (show (0 : Int) ≤ 10 ^ Int.toNat 7 by decide)
            omega
          · have t7 : (10 : Int) ^ Int.toNat 7 = 10000000 := by decide
            have t8 : (10 : Int) ^ 7 = 10000000 := by decide
            rw [e4, t8] at h2
            rw [t7, t8]
            generalize ((10000000 : Int)) ^ (M + 1) = z at h2 ⊢
            omega
          walk_at "go"
          refine q _ _ (Int.emod_nonneg _ (by omega)) (Int.emod_lt_of_pos _ (by omega)) (x1.trans x2) (B2.mono (by omega))
      · have hn40 : n ≤ 1099511627776 := by omega
        walk_at "go"
        refine q _ _ (Int.emod_nonneg _ (by omega)) (Int.emod_lt_of_pos _ (by omega)) (Ex.mut (by simp)) ⟨_, _, _, upd_same, hx, hy0, hy1, by omega, by omega⟩
theorem ok_take (T : Txt K mg) : ∀ N, FnOk P w K mg base CX0 (N + 1) T.a__law_take T.d__law_take P__law_take (spTake N)
  | 0 => ok_take_one T 0 (fun _ _ _ _ => False) ⟨fun _ _ _ _ h => h.elim, fun _ _ _ _ _ _ _ _ _ _ _ _ _ h => h.elim⟩ (.inl rfl)
  | N + 1 => ok_take_one T (N + 1) (spTake N) (ok_take T N) (.inr ⟨N, rfl, rfl⟩)
def spT : Sp := fun vs H Q _ => ∃ (b : Addr) (size : Int) (n : Nat), vs = [.ref b, .int size] ∧ Bx b n H ∧ n ≤ 10 ^ 12 ∧ 1 ≤ size ∧ size ≤ 10 ^ 35 ∧
  ∀ r H', 0 ≤ r → r < size → Ex [b] H H' → Bx b (n + 16) H' → Q (.int r) H'
theorem ok_T (T : Txt K mg) : FnOk P w K mg base CX0 5 T.a__law_take T.d__law_take P__law_take spT := by
  refine fnOk_weak (ok_take T 4) fun vs H Q E h => ?_
  obtain ⟨b, size, n, rfl, hB, hn, h1, h2, q⟩ := h
  exact ⟨b, size, n, rfl, hB, (by have : n ≤ 1000000000000 := hn; omega), h1, h2, Nat.le_refl _, q⟩
/-- one of some things -/
def spOf (K : PySem.W.Frag) : Sp := fun vs H Q _ => ∃ (b a : Addr) (xs : List V) (n : Nat), vs = [.ref b, .ref a] ∧ Bx b n H ∧ n ≤ 10 ^ 12 ∧ Sq K (wo [b] H) a xs ∧ 1 ≤ xs.length ∧ xs.length ≤ 1000 ∧
  ∀ v H', v ∈ xs → Ex [b] H H' → Bx b (n + 16) H' → Q v H'
theorem ok_of (T : Txt K mg) : FnOk P w K mg base CX0 6 T.a__law_of T.d__law_of P__law_of (spOf K) := by
  have nd := sc__law_of.nd
  have G__law_take := ok_T (P := P) (w := w) (base := base) T
  refine T.F__law_of.ok sc__law_of (fun vs H Q E h => ?_) (fun cdv A outer s H vs Q E hr h => ?_)
  · obtain ⟨b, a, xs, n, rfl, _⟩ := h
    rfl
  · obtain ⟨b, a, xs, n, rfl, hB, hn, hS, l1, l2, q⟩ := h
    have hr__law_take := hr
    refine ⟨_, (pss_one (ps_ret (pe_ix (ixK K) (pv 1) (pe_call G__law_take hr__law_take (by rfl) T.m__law_take T.k__law_take T.b__law_take .nil pass0 (pa_cons (pv 0) (pa_cons (pe_callB (lenK K) (by rfl) T.z_len (by decide +kernel) (pa_cons (pv 1) pa_nil)) pa_nil))) (fun _ _ => rfl)))), ?_⟩
    have hS' : Sq K H a xs := le_s (wo_le _ _) hS
    refine ⟨_, rfl, _, rfl, _, rfl, _, _, rfl, hS', b, _, n, rfl, hB, hn, by omega, by omega, fun r H' r0 r1 e1 B1 => ?_⟩
    have hr' : r.toNat < xs.length := by omega
    have hS1 : Sq K H' a xs := le_s (wo_le _ _) (le_s e1.le hS)
    have er : r = ((r.toNat : Nat) : Int) := by omega
    have ea : atI xs ((r.toNat : Nat) : Int) = some xs[r.toNat] := atI_nat (List.getElem?_eq_getElem hr')
    rw [← er] at ea
    exact z_ix hS1 ea (q _ H' (List.getElem_mem _) e1 B1)
/-- the script's numbers, folded -/
def spFolded (K : PySem.W.Frag) : Sp := fun vs H Q _ => ∃ (a : Addr) (ns : List Int) (sz : Nat), vs = [.ref a, .int sz] ∧ SqL K H a (ns.map V.int) ∧ ns.length ≤ 63 ∧ 1 ≤ sz ∧ sz ≤ 3 ∧
  ∀ p H' (ms : List Int), H p = none → Ex [] H H' → H' p = some (.lst (ms.map V.int)) → ms.length ≤ sz → Q (.ref p) H'
theorem ok_folded (T : Txt K mg) : FnOk P w K mg base CX0 1 T.a__law_folded T.d__law_folded P__law_folded (spFolded K) := by
  have nd := sc__law_folded.nd
  refine T.F__law_folded.ok sc__law_folded (fun vs H Q E h => ?_) (fun cdv A outer s H vs Q E hr h => ?_)
  · obtain ⟨a, ns, sz, rfl, _⟩ := h
    rfl
  · obtain ⟨a, ns, sz, rfl, hS, l63, s1, s3, q⟩ := h
    refine ⟨_, (pss_cons (ps_set (i := 2) nd rfl (Or.inl rfl) (pe_callTy (listK K) (by rfl) T.z_list (by decide +kernel) (pa_cons (pe_slice (slK K) (pv 0) po_none (po_some (pv 1))) pa_nil)))
      (pss_cons (ps_for PassesOwn.never rfl (pi_enum (by rfl) T.z_enumerate (pa_cons (pe_slice (slK K) (pv 0) (po_some (pv 1)) (po_some pe_int)) pa_nil)) (pg_tupK K 2 (by rfl) (pgs_cons (pg_name (i := 3) nd rfl (Or.inl rfl)) (pgs_cons (pg_name (i := 4) nd rfl (Or.inl rfl)) pgs_nil))) (pss_one (ps_asg (pe_op op_add (pe_ix (ixK K) (pv 2) (pe_op op_mod (pv 3) (pv 1)) (fun _ _ => rfl)) (pe_op op_mul (pv 4) (pe_op op_add (pv 3) pe_int))) (pg_sub (pv 2) (pe_op op_mod (pv 3) (pv 1)) set_list))))
      (pss_one (ps_ret (pv 2))))), ?_⟩
    -- cells = list(script[:size])
    refine ⟨_, rfl, _, rfl, _, rfl, .inl ⟨_, _, rfl, hS, fun p1 hp1 => ⟨p1, _, rfl, .inl (SqL.of upd_same), fun l hl => ?_⟩⟩⟩
    rw [cut_head] at hl ⊢
    have n1 : l ≠ p1 := fun z => by rw [z, upd_same] at hl; cases hl
    have hl0 : H l = none := by rw [upd_ne n1] at hl; exact hl
    have x2 : Ex [] H (upd (upd H p1 (.lst ((ns.map V.int).take sz))) l (.lst ((ns.map V.int).take sz))) := (Ex.new hp1).mutNew' hl0
    refine ⟨_, rfl, _, rfl, _, rfl, _, rfl, .inl ⟨_, _, rfl, le_l x2.le0 hS, fun p3 hp3 => ⟨p3, _, rfl, SqL.of upd_same, ?_⟩⟩⟩
    rw [show (63 : Int) = ((63 : Nat) : Int) from rfl, cut_mid _ _ _ (by rw [List.length_map]; exact l63)]
    have n3 : p3 ≠ l := fun z => by rw [z, upd_same] at hp3; cases hp3
    have x3 := x2.trans (Ex.new (o := HO.lst ((ns.map V.int).drop sz)) hp3)
    rw [← List.map_drop] at x3 ⊢
    refine for_enum (xs := (ns.drop sz).map V.int) (fun i σ H3 => ∃ (ms : List Int) (y3 y4 : Option V), σ = [some (.ref a), some (.int sz), some (.ref l), y3, y4] ∧ ms.length = (ns.take sz).length ∧ H3 l = some (.lst (ms.map V.int)) ∧ H3 p3 = some (.lst ((ns.drop sz).map V.int)) ∧ Ex [] H H3)
      ⟨ns.take sz, none, none, rfl, rfl, ?_, upd_same, x3⟩ (fun i σ H3 _ ⟨_, _, _, _, _, _, h, _⟩ => SqL.of h) (fun i x T0 σ H3 hx ⟨ms, y3, y4, eσ, lm, hl3, hp3', x4⟩ hT => ?_) (fun σ H3 ⟨ms, y3, y4, eσ, lm, hl3, hp3', x4⟩ => ?_)
    · rw [upd_ne n3.symm, upd_same, List.map_take]
    · subst eσ
      obtain ⟨hi, ex⟩ := List.getElem?_eq_some_iff.mp hx
      rw [List.length_map, List.length_drop] at hi
      rw [List.getElem_map] at ex
      have lm2 : ms.length = sz := by rw [lm, List.length_take]; omega
      have nT : l ≠ T0 := ne_of_none hl3 hT
      have nT3 : p3 ≠ T0 := ne_of_none hp3' hT
      have hj : i % sz < ms.length := by rw [lm2]; exact Nat.mod_lt _ (by omega)
      have ej : ((i : Int) % (sz : Int)) = ((i % sz : Nat) : Int) := (Int.natCast_emod i sz).symm
      refine ⟨T0, _, rfl, SqT.of upd_same, rfl, _, _, rfl, _, _, rfl, rfl, ?_⟩
      refine ⟨_, rfl, _, rfl, _, rfl, _, _, rfl, rfl, (by show (0 : Int) < sz; omega), ?_⟩
      have hx2 : ∀ h : SqL K (upd H3 T0 (.tup [.int (i : Nat), x])) l (ms.map V.int), True := fun _ => trivial
      refine z_ix (.inl (SqL.of (by rw [upd_ne nT]; exact hl3))) (v := .int ms[i % sz]) (by show atI _ ((i : Int) % (sz : Int)) = _; rw [ej]; exact atI_nat (get_ints hj)) ?_
      rw [← ex]
      refine ⟨_, rfl, _, rfl, _, _, rfl, rfl, _, _, rfl, rfl, .inr ⟨by omega, by omega⟩, ?_⟩
      refine ⟨_, _, rfl, rfl, ?_⟩
      refine ⟨_, rfl, _, rfl, _, rfl, _, _, rfl, rfl, (by show (0 : Int) < sz; omega), ?_⟩
      refine ⟨l, _, _, i % sz, rfl, rfl, (by rw [upd_ne nT]; exact hl3), ?_, ?_⟩
      · show ixN _ ((i : Int) % (sz : Int)) = _
        rw [ej]
        exact ixN_nat (by rw [List.length_map]; exact hj)
      · refine ⟨_, _, _, rfl, ?_, by rw [upd_same, set_ints], ?_, (x4.trans (Ex.new hT)).mutNew' hl0⟩
        · rw [List.length_set]; exact lm
        · have n5 : p3 ≠ l := n3
          rw [upd_ne n5, upd_ne nT3]
          exact hp3'
    · subst eσ
      exact ⟨_, rfl, q l H3 ms hl0 x4 hl3 (by rw [lm, List.length_take]; omega)⟩
end
end Z28
set_option Elab.async false
set_option linter.all false
set_option maxRecDepth 100000
set_option maxHeartbeats 4000000
namespace Z28
open PySem PySem.Spec PyProof.Rows L2 Hz
section
variable {P : Program} {w : World} {K : PySem.W.Frag} {mg : Str → Option Value} {base : Heap}
local macro_rules | `(tactic| walk_at "go") => `(tactic| repeat (first | refine ⟨_, rfl, ?_⟩ | refine ⟨_, _, rfl, rfl, ?_⟩ | refine ⟨_, _, rfl, .inl (by assumption), ?_⟩ | refine ⟨(by show (0 : Int) < _; first | decide | omega), ?_⟩ | refine ⟨(by first | exact Or.inl ⟨by decide, by decide⟩ | exact Or.inr ⟨by decide, by decide⟩ | exact Or.inl ⟨by omega, by omega⟩ | exact Or.inr ⟨by omega, by omega⟩), ?_⟩ | refine ⟨divw_of (by decide) (by decide), ?_⟩ | refine ⟨⟨by decide, by decide, by decide⟩, ?_⟩ | refine Or.inr ⟨_, rfl, ?_⟩ | refine z_ixL (by assumption) rfl ?_ | refine z_ixL upd_same rfl ?_ | refine ⟨_, _, _, _, rfl, rfl, by assumption, rfl, ?_⟩))
/-- a hill that the laws draw, handed in by tuples or by lists -/
structure HillOk (h : Hill) : Prop where
  y1 : 1 ≤ h.year.length
  y2 : h.year.length ≤ 20
  d0 : ∀ d, d ∈ h.year → 0 ≤ d.1 ∧ d.1 ≤ 10 ^ 12
  op : ∃ d, d ∈ h.year ∧ d.2 = true
  dr : 0 < h.drops
  n1 : 1 ≤ h.needs.length
  n2 : h.needs.length ≤ 20
  n0 : ∀ m, m ∈ h.needs → 1 ≤ m ∧ m ≤ 10 ^ 14
  m0 : 0 ≤ h.most
  m1 : h.most ≤ 10 ^ 14
def spHill (K : PySem.W.Frag) (f : Hill → V) : Sp := fun vs H Q _ => ∃ (t : Bool) (h : Hill) (v : V), vs = [v] ∧ Dp K H v (h.dat t) ∧ HillOk h ∧ ∀ H', Ex [] H H' → Q (f h) H'
theorem ok_year_drops (T : Txt K mg) : FnOk P w K mg base CX0 1 T.a_year_drops T.d_year_drops P_year_drops (spHill K fun h => .int h.drops) := by
  have nd := sc_year_drops.nd
  refine T.F_year_drops.ok sc_year_drops (fun vs H Q E h => ?_) (fun cdv A outer s H vs Q E hr h => ?_)
  · obtain ⟨t, h, v, rfl, _⟩ := h
    rfl
  · obtain ⟨t, h, v, rfl, hD, hk, q⟩ := h
    have hl := hk.y2
    refine ⟨_, (pss_one (ps_ret (pe_callB (sumK K) (by rfl) T.z_sum (by decide +kernel) (pa_cons (pe_lc (own := [("day", 1)]) (by rfl) nd (pi_seqK K (pe_ix (ixK K) (pv 0) pe_int (fun _ _ => rfl))) (blkOk_by (N := N_year_drops) (own := [("day", 1)]) (sc := defScope s_year_drops) (by decide +kernel)) (fun _ _ _ _ _ => pg_name (i := 1) nd rfl (Or.inl rfl)) (fun _ _ _ _ _ => pts_nil) (fun _ _ _ _ _ => (pe_ix (ixK K) (pv 1) pe_int (fun _ _ => rfl)))) pa_nil)))), ?_⟩
    obtain ⟨a, xs, rfl, hS, hA⟩ := dp_sq hD
    obtain ⟨yv, hy, hyD⟩ := dpa_get hA (i := 0) rfl
    obtain ⟨ya, ys, rfl, hyS, hyA⟩ := dp_sq hyD
    have ly := dpa_len hyA
    rw [List.length_map] at ly
    dsimp only [tRet, tCB, tCons]
    refine z_lcS (B := []) (C := []) (t := t) (xs := ys) (fun R r => ⟨_, rfl, z_ix hS.sq (v := .ref ya) (i := 0) (atI_nat hy) (r ya H (Ex.refl _ _) (by rw [wo_nil]; exact hyS))⟩)
      (fun i v _ => ∃ d, h.year[i]? = some d ∧ v = .int d.1) (fun _ _ => True) (fun H1 x1 => ⟨lcOk0 (by omega), fun i x _ hx D H' hD' nB e1 _ tD N hN => ?_, fun D zs H' hD' hz lz rz e1 _ => ?_⟩)
    · obtain ⟨d, hd, hdD⟩ := dpa_get' hyA hx
      rw [List.getElem?_map] at hd
      obtain ⟨d0, hd0, rfl⟩ := Option.map_eq_some_iff.mp hd
      refine ⟨rfl, _, rfl, ?_⟩
      refine z_ixD (dp_le (x1.trans e1).le0 _ _ hdD) (Le.refl _) (j := 0) rfl rfl fun u hu => ?_
      exact hN u H' (Ex.refl _ _) ⟨d0, hd0, dp_int hu⟩ trivial
    · have ez := ys_ints (f := fun d : Int × Bool => d.1) (by rw [lz, ly]) rz
      refine ⟨D, _, rfl, .inl (SqL.of (by rw [hz, ez])), ?_⟩
      exact q H' (x1.trans e1)
/-- of a hill and a day -/
def spDay (K : PySem.W.Frag) (R : Hill → Nat → V → Prop) : Sp := fun vs H Q _ => ∃ (t : Bool) (h : Hill) (v : V) (n : Nat), vs = [v, .int n] ∧ Dp K H v (h.dat t) ∧ HillOk h ∧ ∀ r H', R h n r → Ex [] H H' → Q r H'
theorem HillOk.L0 {h : Hill} (k : HillOk h) : 0 < h.L := k.y1
theorem HillOk.nn {h : Hill} (k : HillOk h) : h.Nn := fun d hd => (k.d0 d hd).1
theorem sum_le {l : List Int} {z : Int} (h0 : 0 ≤ z) (h : ∀ x, x ∈ l → x ≤ z) : l.sum ≤ l.length * z := by
  induction l with
  | nil => simp
  | cons a r ih =>
    have h1 := h a (List.mem_cons_self ..)
    have h2 := ih fun x hx => h x (List.mem_cons_of_mem _ hx)
    rw [List.sum_cons, List.length_cons]
    have e : ((r.length + 1 : Nat) : Int) * z = r.length * z + z := by
      rw [show ((r.length + 1 : Nat) : Int) = (r.length : Int) + 1 from rfl, Int.add_mul, Int.one_mul]
    omega
theorem HillOk.dm {h : Hill} (k : HillOk h) : h.drops ≤ 20 * 10 ^ 12 := by
  have h1 : h.drops ≤ (h.year.map (·.1)).length * (10 ^ 12 : Int) := sum_le (by decide) fun x hx => by
    obtain ⟨d, hd, rfl⟩ := List.mem_map.mp hx
    exact (k.d0 d hd).2
  rw [List.length_map] at h1
  have h2 := k.y2
  have h3 : ((h.year.length : Nat) : Int) * (10 ^ 12 : Int) ≤ 20 * 10 ^ 12 := by
    have : ((h.year.length : Nat) : Int) ≤ 20 := by omega
    omega
  omega
theorem ok_given_by (T : Txt K mg) : FnOk P w K mg base CX0 2 T.a_given_by T.d_given_by P_given_by (spDay K fun h n r => r = .int (h.given n)) := by
  have nd := sc_given_by.nd
  have G_year_drops := ok_year_drops (P := P) (w := w) (base := base) T
  refine T.F_given_by.ok sc_given_by (fun vs H Q E h => ?_) (fun cdv A outer s H vs Q E hr h => ?_)
  · obtain ⟨t, h, v, n, rfl, _⟩ := h
    rfl
  · obtain ⟨t, h, v, n, rfl, hD, hk, q⟩ := h
    have hr_year_drops := hr
    refine ⟨_, (pss_cons (ps_set (i := 2) nd rfl (Or.inl rfl) (pe_ix (ixK K) (pv 0) pe_int (fun _ _ => rfl)))
      (pss_cons (ps_asg (pe_callB call_divmodW (by rfl) T.z_divmod (by decide +kernel) (pa_cons (pv 1) (pa_cons (pe_callB (lenK K) (by rfl) T.z_len (by decide +kernel) (pa_cons (pv 2) pa_nil)) pa_nil))) (pg_tupK K 2 (by rfl) (pgs_cons (pg_name (i := 3) nd rfl (Or.inl rfl)) (pgs_cons (pg_name (i := 4) nd rfl (Or.inl rfl)) pgs_nil))))
      (pss_one (ps_ret (pe_op op_add (pe_op op_mul (pv 3) (pe_call G_year_drops hr_year_drops (by rfl) T.m_year_drops T.k_year_drops T.b_year_drops .nil pass0 (pa_cons (pv 0) pa_nil))) (pe_callB (sumK K) (by rfl) T.z_sum (by decide +kernel) (pa_cons (pe_lc (own := [("part", 5)]) (by rfl) nd (pi_seqK K (pe_slice (slK K) (pv 2) po_none (po_some (pe_op op_add (pv 4) pe_int)))) (blkOk_by (N := N_given_by) (own := [("part", 5)]) (sc := defScope s_given_by) (by decide +kernel)) (fun _ _ _ _ _ => pg_name (i := 5) nd rfl (Or.inl rfl)) (fun _ _ _ _ _ => pts_nil) (fun _ _ _ _ _ => (pe_ix (ixK K) (pv 5) pe_int (fun _ _ => rfl)))) pa_nil))))))), ?_⟩
    refine ⟨_, rfl, z_ixD hD (Le.refl _) (j := 0) rfl rfl fun u hu => ?_⟩
    obtain ⟨ya, ys, rfl, hyS, hyA⟩ := dp_sq hu
    have ly := dpa_len hyA
    rw [List.length_map] at ly
    have hL : ys.length = h.L := ly
    have hL0 := hk.L0
    have hL2 : h.L ≤ 20 := hk.y2
    walk_at "go"
    refine ⟨_, _, rfl, hyS.sq, ?_⟩
    rw [hL]
    refine ⟨_, _, rfl, divp_of (by omega) (by omega), fun p hp => ?_⟩
    have x1 : Ex [] H (upd H p (.tup [.int ((n : Int) / (h.L : Int)), .int ((n : Int) % (h.L : Int))])) := Ex.new hp
    refine ⟨p, _, rfl, SqT.of upd_same, rfl, _, _, rfl, _, _, rfl, rfl, ?_⟩
    refine ⟨_, rfl, _, rfl, t, h, _, rfl, dp_le x1.le0 _ _ hD, hk, fun H2 x2 => ?_⟩
    refine ⟨_, _, rfl, rfl, .inr ⟨by have := hk.dr; omega, by have := hk.dm; omega⟩, ?_⟩
    have x12 := x1.trans x2
    have hyS2 := le_x x12.le0 hyS
    dsimp only [tCB, tCons]
    have em : ((n : Int) % (h.L : Int) + 1) = ((n % h.L + 1 : Nat) : Int) := by rw [Int.natCast_add, Int.natCast_emod]; rfl
    refine z_lcS (B := []) (C := []) (t := t) (xs := ys.take (n % h.L + 1)) (fun R r => ⟨_, rfl, _, rfl, _, _, rfl, rfl, _, rfl, z_sl hyS2 fun p1 H3 x3 h3 => r p1 H3 x3 (by rw [wo_nil]; rw [em, cut_head] at h3; exact h3)⟩)
      (fun i v _ => ∃ d, (h.year.take (n % h.L + 1))[i]? = some d ∧ v = .int d.1) (fun _ _ => True) (fun H1 x3 => ⟨lcOk0 (by rw [List.length_take]; omega), fun i x _ hx D H' hD' nB e1 _ tD N hN => ?_, fun D zs H' hD' hz lz rz e1 _ => ?_⟩)
    · have hi : i < n % h.L + 1 := by
        obtain ⟨hh, _⟩ := List.getElem?_eq_some_iff.mp hx
        rw [List.length_take] at hh
        omega
      rw [List.getElem?_take, if_pos hi] at hx
      obtain ⟨d, hd, hdD⟩ := dpa_get' hyA hx
      rw [List.getElem?_map] at hd
      obtain ⟨d0, hd0, rfl⟩ := Option.map_eq_some_iff.mp hd
      refine ⟨rfl, _, rfl, ?_⟩
      refine z_ixD (dp_le ((x12.trans x3).trans e1).le0 _ _ hdD) (Le.refl _) (j := 0) rfl rfl fun u hu => ?_
      exact hN u H' (Ex.refl _ _) ⟨d0, by rw [List.getElem?_take, if_pos hi]; exact hd0, dp_int hu⟩ trivial
    · have ez := ys_ints (f := fun d : Int × Bool => d.1) (by rw [lz, List.length_take, List.length_take, ly]) rz
      refine ⟨D, _, rfl, .inl (SqL.of (by rw [hz, ez])), ?_⟩
      refine ⟨_, _, rfl, rfl, ?_⟩
      refine q _ H' ?_ ((x12.trans x3).trans e1)
      show V.int _ = V.int _
      rw [Hill.given_eq hL0, Int.natCast_ediv]
end
end Z28
set_option Elab.async false
set_option linter.all false
set_option maxRecDepth 100000
set_option maxHeartbeats 4000000
namespace Z28
open PySem PySem.Spec PyProof.Rows L2 Hz
section
variable {P : Program} {w : World} {K : PySem.W.Frag} {mg : Str → Option Value} {base : Heap}
local macro_rules | `(tactic| walk_at "go") => `(tactic| repeat (first | refine ⟨_, rfl, ?_⟩ | refine ⟨_, _, rfl, rfl, ?_⟩ | refine ⟨_, _, rfl, .inl (by assumption), ?_⟩ | refine ⟨(by show (0 : Int) < _; first | decide | omega), ?_⟩ | refine ⟨(by first | exact Or.inl ⟨by decide, by decide⟩ | exact Or.inr ⟨by decide, by decide⟩ | exact Or.inl ⟨by omega, by omega⟩ | exact Or.inr ⟨by omega, by omega⟩), ?_⟩ | refine ⟨divw_of (by decide) (by decide), ?_⟩ | refine ⟨⟨by decide, by decide, by decide⟩, ?_⟩ | refine Or.inr ⟨_, rfl, ?_⟩ | refine z_ixL (by assumption) rfl ?_ | refine z_ixL upd_same rfl ?_ | refine ⟨_, _, _, _, rfl, rfl, by assumption, rfl, ?_⟩))
theorem emod_nat (n m : Nat) : ((n : Int) % (m : Int)) = ((n % m : Nat) : Int) := (Int.natCast_emod n m).symm
/-- the year's day of a number, read -/
theorem z_dayAt {H G : Hp} {t : Bool} {h : Hill} {ya : Addr} {ys : List V} {n : Nat} {Q : VK} (hL : 0 < h.L) (hyS : SqX t K G ya ys) (hyA : DpAll K G ys (h.year.map fun d => sq t [.int d.1, .bool d.2])) (le : Le G H)
    (q : ∀ u, Dp K G u (sq t [.int (h.drop n), .bool (h.isOpen n)]) → Q u H) : rIx K (.ref ya) (.int ((n : Int) % (h.L : Int))) H Q := by
  obtain ⟨d, hd, e1, e2⟩ := Hill.at_day hL n
  obtain ⟨u, hu, hD⟩ := dpa_get hyA (i := n % h.L) (d := sq t [.int d.1, .bool d.2]) (by rw [List.getElem?_map, hd]; rfl)
  rw [emod_nat]
  exact z_ix (le_x le hyS).sq (atI_nat hu) (q u (by rw [e1, e2]; exact hD))
theorem ok_open_from (T : Txt K mg) : FnOk P w K mg base CX0 1 T.a_open_from T.d_open_from P_open_from (spDay K fun h n r => ∃ m : Nat, r = .int m ∧ h.OpenFrom n m) := by
  have nd := sc_open_from.nd
  refine T.F_open_from.ok sc_open_from (fun vs H Q E h => ?_) (fun cdv A outer s H vs Q E hr h => ?_)
  · obtain ⟨t, h, v, n, rfl, _⟩ := h
    rfl
  · obtain ⟨t, h, v, n, rfl, hD, hk, q⟩ := h
    refine ⟨_, (pss_cons (ps_set (i := 2) nd rfl (Or.inl rfl) (pe_ix (ixK K) (pv 0) pe_int (fun _ _ => rfl)))
      (pss_cons (ps_while PassesOwn.never (pt_not (pt_val (pe_ix (ixK K) (pe_ix (ixK K) (pv 2) (pe_op op_mod (pv 1) (pe_callB (lenK K) (by rfl) T.z_len (by decide +kernel) (pa_cons (pv 2) pa_nil))) (fun _ _ => rfl)) pe_int (fun _ _ => rfl)))) (pss_one (ps_aug (i := 1) nd rfl (Or.inl rfl) pe_int ip_add)))
      (pss_one (ps_ret (pv 1))))), ?_⟩
    have hL0 := hk.L0
    obtain ⟨m, ⟨m1, m2, m3⟩, _⟩ := Hill.openFrom_ex hL0 hk.op n
    refine ⟨_, rfl, z_ixD hD (Le.refl _) (j := 0) rfl rfl fun u hu => ?_⟩
    obtain ⟨ya, ys, rfl, hyS, hyA⟩ := dp_sq hu
    have ly := dpa_len hyA
    rw [List.length_map] at ly
    have hL : ys.length = h.L := ly
    refine ⟨fun c σ H' => ∃ k : Nat, σ = [some v, some (.int k), some (.ref ya)] ∧ c = m - k ∧ n ≤ k ∧ k ≤ m ∧ H' = H, ⟨m - n, n, rfl, rfl, Nat.le_refl _, m1, rfl⟩, fun c σ H' hw => ?_⟩
    obtain ⟨k, rfl, rfl, k1, k2, rfl⟩ := hw
    refine ⟨_, rfl, _, rfl, _, rfl, _, _, rfl, hyS.sq, ?_⟩
    rw [hL]
    refine ⟨_, _, rfl, rfl, (by show (0 : Int) < _; omega), ?_⟩
    refine z_dayAt hL0 hyS hyA (Le.refl _) fun u hu => ?_
    refine z_ixD hu (Le.refl _) (j := 1) rfl rfl fun b hb => ?_
    have eb := dp_bl hb
    subst eb
    refine ⟨_, rfl, ?_⟩
    by_cases c : h.isOpen k = true
    · rw [c]
      refine iteF ?_
      refine ⟨_, rfl, q _ H' ⟨k, rfl, k1, c, fun j j1 j2 => m3 j j1 (by omega)⟩ (Ex.refl _ _)⟩
    · rw [Bool.eq_false_iff.mpr c]
      refine iteT ⟨_, fun _ _ hn => hn, ?_⟩
      have km : k ≠ m := fun z => c (z ▸ m2)
      refine ⟨_, rfl, _, _, rfl, rfl, m - (k + 1), by omega, k + 1, rfl, rfl, by omega, by omega, rfl⟩
def spDayOf (K : PySem.W.Frag) : Sp := fun vs H Q _ => ∃ (t : Bool) (h : Hill) (v : V) (n : Nat), vs = [v, .int n] ∧ Dp K H v (h.dat t) ∧ HillOk h ∧ 1 ≤ n ∧ ∀ (m : Nat) H', h.DayOf n m → Ex [] H H' → Q (.int m) H'
theorem ok_day_of (T : Txt K mg) : FnOk P w K mg base CX0 2 T.a_day_of T.d_day_of P_day_of (spDayOf K) := by
  have nd := sc_day_of.nd
  have G_year_drops := ok_year_drops (P := P) (w := w) (base := base) T
  have G_open_from := ok_open_from (P := P) (w := w) (base := base) T
  refine T.F_day_of.ok sc_day_of (fun vs H Q E h => ?_) (fun cdv A outer s H vs Q E hr h => ?_)
  · obtain ⟨t, h, v, n, rfl, _⟩ := h
    rfl
  · obtain ⟨t, h, v, n, rfl, hD, hk, hn, q⟩ := h
    have hr_year_drops := hr
    have hr_open_from := hr
    refine ⟨_, (pss_cons (ps_set (i := 2) nd rfl (Or.inl rfl) (pe_ix (ixK K) (pv 0) pe_int (fun _ _ => rfl)))
      (pss_cons (ps_asg (pe_callB call_divmodW (by rfl) T.z_divmod (by decide +kernel) (pa_cons (pe_op op_sub (pv 1) pe_int) (pa_cons (pe_call G_year_drops hr_year_drops (by rfl) T.m_year_drops T.k_year_drops T.b_year_drops .nil pass0 (pa_cons (pv 0) pa_nil)) pa_nil))) (pg_tupK K 2 (by rfl) (pgs_cons (pg_name (i := 3) nd rfl (Or.inl rfl)) (pgs_cons (pg_name (i := 4) nd rfl (Or.inl rfl)) pgs_nil))))
      (pss_cons (ps_set (i := 5) nd rfl (Or.inl rfl) (pe_op op_add (pv 4) pe_int))
      (pss_cons (ps_set (i := 6) nd rfl (Or.inl rfl) pe_int)
      (pss_cons (ps_while PassesOwn.never (pt_cmpR op_gt (pv 5) (pe_ix (ixK K) (pe_ix (ixK K) (pv 2) (pv 6) (fun _ _ => rfl)) pe_int (fun _ _ => rfl)) (nomark _)) (pss_cons (ps_aug (i := 5) nd rfl (Or.inl rfl) (pe_ix (ixK K) (pe_ix (ixK K) (pv 2) (pv 6) (fun _ _ => rfl)) pe_int (fun _ _ => rfl)) ip_sub)
      (pss_one (ps_aug (i := 6) nd rfl (Or.inl rfl) pe_int ip_add))))
      (pss_one (ps_ret (pe_call G_open_from hr_open_from (by rfl) T.m_open_from T.k_open_from T.b_open_from .nil pass0 (pa_cons (pv 0) (pa_cons (pe_op op_add (pe_op op_mul (pv 3) (pe_callB (lenK K) (by rfl) T.z_len (by decide +kernel) (pa_cons (pv 2) pa_nil))) (pv 6)) pa_nil)))))))))), ?_⟩
    have hL0 := hk.L0
    have hdr := hk.dr
    refine ⟨_, rfl, z_ixD hD (Le.refl _) (j := 0) rfl rfl fun u hu => ?_⟩
    have hu0 := hu
    obtain ⟨ya, ys, rfl, hyS, hyA⟩ := dp_sq hu
    have ly := dpa_len hyA
    rw [List.length_map] at ly
    have hL : ys.length = h.L := ly
    have hL2 : h.L ≤ 20 := hk.y2
    obtain ⟨dn, hdn⟩ : ∃ dn : Nat, h.drops = dn := ⟨h.drops.toNat, by omega⟩
    obtain ⟨n1, hn1⟩ : ∃ n1 : Nat, n = n1 + 1 := ⟨n - 1, by omega⟩
    subst hn1
    have ed : ((n1 + 1 : Nat) : Int) - 1 = (n1 : Int) := by omega
    have hb : n1 % dn < dn := Nat.mod_lt _ (by omega)
    have hdm := Nat.div_add_mod n1 dn
    refine ⟨_, rfl, _, _, rfl, rfl, _, rfl, t, h, _, rfl, hD, hk, fun H1 x1 => ?_⟩
    refine ⟨_, _, rfl, divp_of hdr (by have := hk.dm; omega), fun p hp => ?_⟩
    rw [ed, hdn, ← Int.natCast_ediv, ← Int.natCast_emod]
    have x2 : Ex [] H (upd H1 p (.tup [.int ((n1 / dn : Nat) : Int), .int ((n1 % dn : Nat) : Int)])) := x1.trans (Ex.new hp)
    refine ⟨p, _, rfl, SqT.of upd_same, rfl, _, _, rfl, _, _, rfl, rfl, ?_⟩
    refine ⟨_, rfl, _, _, rfl, rfl, ?_⟩
    have total : ((h.year.take h.L).map (·.1)).sum = (dn : Int) := by
      rw [← hdn]
      unfold Hill.L Hill.drops
      rw [List.take_length]
    refine ⟨fun c σ H' => ∃ (j : Nat) (z : Int), σ = [some v, some (.int ((n1 + 1 : Nat) : Int)), some (.ref ya), some (.int ((n1 / dn : Nat) : Int)), some (.int ((n1 % dn : Nat) : Int)), some (.int z), some (.int j)] ∧ c = h.L - j ∧ j < h.L ∧ 1 ≤ z ∧ z = ((n1 % dn : Nat) : Int) + 1 - ((h.year.take j).map (·.1)).sum ∧ Ex [] H H',
      ⟨h.L - 0, 0, _, rfl, rfl, hL0, ?_, ?_, x2⟩, fun c σ H' hw => ?_⟩
    · show 1 ≤ ((n1 % dn : Nat) : Int) + 1
      omega
    · rw [List.take_zero, List.map_nil, List.sum_nil]
      show ((n1 % dn : Nat) : Int) + 1 = _
      omega
    obtain ⟨j, z, rfl, rfl, hj, hz, ez, x3⟩ := hw
    have hday : (h.year.map fun d => sq t [.int d.1, .bool d.2])[j]? = some (sq t [.int (h.year[j]'hj).1, .bool (h.year[j]'hj).2]) := by
      rw [List.getElem?_map, List.getElem?_eq_getElem hj]
      rfl
    have hts := Hill.take_sum (List.getElem?_eq_getElem (l := h.year) hj)
    refine ⟨_, rfl, _, rfl, _, rfl, z_ixD (dp_le x3.le0 _ _ hu0) (Le.refl _) rfl hday fun u hu => z_ixD hu (Le.refl _) (j := 0) rfl rfl fun b hb => ?_⟩
    have eb := dp_int hb
    subst eb
    refine ⟨_, _, rfl, rfl, _, rfl, ?_⟩
    refine ite2 (fun c => ?_) (fun c => ?_)
    · have c' : (h.year[j]'hj).1 < z := of_decide_eq_true c
      have j2 : j + 1 < h.L := by
        refine Nat.lt_of_le_of_ne hj fun e => ?_
        rw [e, total] at hts
        omega
      refine ⟨_, fun _ _ hh => hh, ?_⟩
      refine ⟨_, rfl, _, rfl, _, rfl, z_ixD (dp_le x3.le0 _ _ hu0) (Le.refl _) rfl hday fun u hu => z_ixD hu (Le.refl _) (j := 0) rfl rfl fun b hb => ?_⟩
      have eb := dp_int hb
      subst eb
      refine ⟨_, _, rfl, rfl, _, rfl, _, _, rfl, rfl, h.L - (j + 1), by omega, j + 1, _, rfl, rfl, j2, ?_, ?_, x3⟩
      · show 1 ≤ z - (h.year[j]'hj).1
        omega
      · show z - (h.year[j]'hj).1 = _
        rw [hts]
        omega
    · have c' : ¬ (h.year[j]'hj).1 < z := of_decide_eq_false (Bool.eq_false_iff.mpr c)
      refine ⟨_, rfl, _, rfl, _, rfl, _, _, rfl, (le_x x3.le0 hyS).sq, ?_⟩
      rw [hL]
      refine ⟨_, _, rfl, rfl, .inr ⟨by omega, by omega⟩, _, rfl, _, _, rfl, rfl, ?_⟩
      have hge := Hill.ge_at hL0 (n1 / dn) j hj
      have hgs := Hill.ge_succ hL0 (n1 / dn * h.L + j)
      rw [Hill.drop_at _ _ hj] at hgs
      have em : ((n1 / dn : Nat) : Int) * h.drops = ((dn * (n1 / dn) : Nat) : Int) := by rw [hdn, Int.natCast_mul, Int.mul_comm]
      refine ⟨t, h, v, n1 / dn * h.L + j, ?_, dp_le x3.le0 _ _ hD, hk, fun r H4 ⟨m, er, om⟩ x4 => ?_⟩
      · show [v, V.int _] = _
        rw [Int.natCast_add, Int.natCast_mul]
      · subst er
        refine q m H4 (Hill.dayOf_of hk.nn hL0 ?_ (fun k hk' => ?_) om) (x3.trans x4)
        · show _ ≤ h.ge _
          rw [hgs, hge, em]
          omega
        · have := Hill.ge_mono hk.nn hL0 (show k + 1 ≤ n1 / dn * h.L + j by omega)
          show h.ge (k + 1) < _
          rw [hge, em] at this
          omega
end
end Z28
set_option Elab.async false
set_option linter.all false
set_option maxRecDepth 100000
set_option maxHeartbeats 4000000
namespace Z28
open PySem PySem.Spec PyProof.Rows L2 Hz
section
variable {P : Program} {w : World} {K : PySem.W.Frag} {mg : Str → Option Value} {base : Heap}
local macro_rules | `(tactic| walk_at "go") => `(tactic| repeat (first | refine ⟨_, rfl, ?_⟩ | refine ⟨_, _, rfl, rfl, ?_⟩ | refine ⟨_, _, rfl, .inl (by assumption), ?_⟩ | refine ⟨(by show (0 : Int) < _; first | decide | omega), ?_⟩ | refine ⟨(by first | exact Or.inl ⟨by decide, by decide⟩ | exact Or.inr ⟨by decide, by decide⟩ | exact Or.inl ⟨by omega, by omega⟩ | exact Or.inr ⟨by omega, by omega⟩), ?_⟩ | refine ⟨divw_of (by decide) (by decide), ?_⟩ | refine ⟨⟨by decide, by decide, by decide⟩, ?_⟩ | refine Or.inr ⟨_, rfl, ?_⟩ | refine z_ixL (by assumption) rfl ?_ | refine z_ixL upd_same rfl ?_ | refine ⟨_, _, _, _, rfl, rfl, by assumption, rfl, ?_⟩))
local macro_rules | `(tactic| walk_at "un") => `(tactic| dsimp only [tSeq, tIfS, tRet, tAsg, tDrop, tOr, tAnd, tNot, tAndV, tOrV, tNotV, tTest, tB, tOp, tUn, tCB, tCons, tNil, tC, tNext, tIf, tChain, gName])
/-- two things that are alike -/
def spSame (K : PySem.W.Frag) (N : Nat) : Sp := fun vs H Q _ => ∃ (u v : V) (d : PyData), vs = [u, v] ∧ Dp K H u d ∧ Dp K H v d ∧ dpt N d ∧ ∀ H', Ex [] H H' → Q (.bl true) H'
theorem ok_same_one (T : Txt K mg) (N : Nat) (sp' : Sp) (G__law_same : FnOk P w K mg base CX0 N T.a__law_same T.d__law_same P__law_same sp') (hsp : N = 0 ∨ ∃ M, N = M + 1 ∧ sp' = spSame K M) :
    FnOk P w K mg base CX0 (N + 1) T.a__law_same T.d__law_same P__law_same (spSame K N) := by
  have nd := sc__law_same.nd
  refine T.F__law_same.ok sc__law_same (fun vs H Q E h => ?_) (fun cdv A outer s H vs Q E hr h => ?_)
  · obtain ⟨u, v, d, rfl, _⟩ := h
    rfl
  · obtain ⟨u, v, d, rfl, hU, hV, hN, q⟩ := h
    have hr__law_same := hr
    refine ⟨_, (pss_cons (ps_if (pt_val (pe_callB (isiTK K) (by rfl) T.z_isinstance (by decide +kernel) (pa_cons (pv 1) (pa_cons (pe_tup (pa_cons (pe_bltn (by rfl) T.z_list (by decide +kernel) (v := .ty "list") rfl) (pa_cons (pe_bltn (by rfl) T.z_tuple (by decide +kernel) (v := .ty "tuple") rfl) pa_nil))) pa_nil)))) (pss_cons (ps_if (PW.pt (pw_or (pt_cmpR op_ne (pe_callB (isiK K) (by rfl) T.z_isinstance (by decide +kernel) (pa_cons (pv 0) (pa_cons (pe_bltn (by rfl) T.z_list (by decide +kernel) (v := .ty "list") rfl) pa_nil))) (pe_callB (isiK K) (by rfl) T.z_isinstance (by decide +kernel) (pa_cons (pv 1) (pa_cons (pe_bltn (by rfl) T.z_list (by decide +kernel) (v := .ty "list") rfl) pa_nil))) (nomark _)) (pw_or1 (pt_cmpR op_ne (pe_callB (isiK K) (by rfl) T.z_isinstance (by decide +kernel) (pa_cons (pv 0) (pa_cons (pe_bltn (by rfl) T.z_tuple (by decide +kernel) (v := .ty "tuple") rfl) pa_nil))) (pe_callB (isiK K) (by rfl) T.z_isinstance (by decide +kernel) (pa_cons (pv 1) (pa_cons (pe_bltn (by rfl) T.z_tuple (by decide +kernel) (v := .ty "tuple") rfl) pa_nil))) (nomark _))))) (pss_one (ps_ret pe_bl)) pss_nil)
      (pss_one (ps_ret (pe_and (pe_cmpR op_eq (pe_callB (lenK K) (by rfl) T.z_len (by decide +kernel) (pa_cons (pv 0) pa_nil)) (pe_callB (lenK K) (by rfl) T.z_len (by decide +kernel) (pa_cons (pv 1) pa_nil)) (nomark _)) (pe_one (pe_callB (allK K) (by rfl) T.z_all (by decide +kernel) (pa_cons (pe_lc (own := [("_law_mine", 2), ("_law_its", 3)]) (by rfl) nd (RZ.pi_zipA (by rfl) T.z_zip (pa_cons (pv 0) (pa_cons (pv 1) pa_nil))) (blkOk_by (N := N__law_same) (own := [("_law_mine", 2), ("_law_its", 3)]) (sc := defScope s__law_same) (by decide +kernel)) (fun _ _ _ _ _ => (pg_tupK K 2 (by rfl) (pgs_cons (pg_name (i := 2) nd rfl (Or.inl rfl)) (pgs_cons (pg_name (i := 3) nd rfl (Or.inl rfl)) pgs_nil)))) (fun _ _ _ _ _ => pts_nil) (fun _ _ _ _ _ => (pe_call G__law_same hr__law_same (by rfl) T.m__law_same T.k__law_same T.b__law_same .nil pass0 (pa_cons (pv 2) (pa_cons (pv 3) pa_nil))))) pa_nil))))))) pss_nil)
      (pss_cons (ps_if (PW.pt (pw_or (pt_cmpR op_isN (pv 1) pe_non (nomark _)) (pw_or1 (pt_val (pe_callB (isiK K) (by rfl) T.z_isinstance (by decide +kernel) (pa_cons (pv 1) (pa_cons (pe_bltn (by rfl) T.z_str (by decide +kernel) (v := .ty "str") rfl) pa_nil))))))) (pss_one (ps_ret (pe_and (pe_cmpR op_eq (pv 0) (pv 1) (nomark _)) (pe_one (pe_cmpR op_eq (pe_callB (isiK K) (by rfl) T.z_isinstance (by decide +kernel) (pa_cons (pv 0) (pa_cons (pe_bltn (by rfl) T.z_str (by decide +kernel) (v := .ty "str") rfl) pa_nil))) (pe_callB (isiK K) (by rfl) T.z_isinstance (by decide +kernel) (pa_cons (pv 1) (pa_cons (pe_bltn (by rfl) T.z_str (by decide +kernel) (v := .ty "str") rfl) pa_nil))) (nomark _)))))) pss_nil)
      (pss_one (ps_ret (pe_and (pe_callB (isiK K) (by rfl) T.z_isinstance (by decide +kernel) (pa_cons (pv 0) (pa_cons (pe_bltn (by rfl) T.z_int (by decide +kernel) (v := .ty "int") rfl) pa_nil))) (pe_and (pe_cmpR op_eq (pe_callB (isiK K) (by rfl) T.z_isinstance (by decide +kernel) (pa_cons (pv 0) (pa_cons (pe_bltn (by rfl) T.z_bool (by decide +kernel) (v := .ty "bool") rfl) pa_nil))) (pe_callB (isiK K) (by rfl) T.z_isinstance (by decide +kernel) (pa_cons (pv 1) (pa_cons (pe_bltn (by rfl) T.z_bool (by decide +kernel) (v := .ty "bool") rfl) pa_nil))) (nomark _)) (pe_one (pe_cmpR op_eq (pv 0) (pv 1) (nomark _))))))))), ?_⟩
    refine ⟨_, rfl, (by show 2 ≤ sizeLine; decide), fun p hp => ?_⟩
    have x1 : Ex [] H (upd H p (.tup [.ty "list", .ty "tuple"])) := Ex.new hp
    have hU1 := dp_le x1.le0 _ _ hU
    have hV1 := dp_le x1.le0 _ _ hV
    dsimp only [tNil]
    refine z_isiLT hV1 upd_same ?_
    refine ⟨_, rfl, ?_⟩
    generalize upd H p (.tup [.ty "list", .ty "tuple"]) = H1 at x1 hU1 hV1 ⊢
    have h1 : "list" = "list" ∨ ("list" : String) = "tuple" ∨ ("list" : String) = "bool" ∨ ("list" : String) = "int" ∨ ("list" : String) = "str" := .inl rfl
    have h2 : ("tuple" : String) = "list" ∨ ("tuple" : String) = "tuple" ∨ ("tuple" : String) = "bool" ∨ ("tuple" : String) = "int" ∨ ("tuple" : String) = "str" := .inr (.inl rfl)
    have h3 : ("bool" : String) = "list" ∨ ("bool" : String) = "tuple" ∨ ("bool" : String) = "bool" ∨ ("bool" : String) = "int" ∨ ("bool" : String) = "str" := .inr (.inr (.inl rfl))
    have h4 : ("int" : String) = "list" ∨ ("int" : String) = "tuple" ∨ ("int" : String) = "bool" ∨ ("int" : String) = "int" ∨ ("int" : String) = "str" := .inr (.inr (.inr (.inl rfl)))
    have h5 : ("str" : String) = "list" ∨ ("str" : String) = "tuple" ∨ ("str" : String) = "bool" ∨ ("str" : String) = "int" ∨ ("str" : String) = "str" := .inr (.inr (.inr (.inr rfl)))
    have qt := q H1 x1
    have deep : ∀ (t : Bool) (ds : List PyData), d = sq t ds → tCB (rAll K) (tCons (tLc (RZ.iZipA K (tCons (tVar 0) (tCons (tVar 1) tNil))) (gTup K 2 (gCons (gName 2) (gCons (gName 3) gNil))) tYes (tCall sp' [] E0 (tCons (tVar 2) (tCons (tVar 3) tNil))) [2, 3]) tNil) (L2.start N__law_same [u, v]) H1 Q := fun t ds e => by
      have hM : ∃ M, sp' = spSame K M ∧ ds.length ≤ 1000 ∧ ∀ d ∈ ds, dpt M d := by
        rcases hsp with rfl | ⟨M, rfl, rfl⟩
        · exfalso; subst e; cases t <;> exact hN
        · refine ⟨M, rfl, ?_⟩
          subst e
          cases t <;> exact hN
      obtain ⟨M, rfl, hl, hds⟩ := hM
      subst e
      obtain ⟨a, xs, rfl, hS, hA⟩ := dp_sq hU1
      obtain ⟨b, ys, rfl, hS2, hA2⟩ := dp_sq hV1
      have ll := dpa_len hA
      have ll2 := dpa_len hA2
      walk_at "un"
      refine z_lcZ (B := []) (C := []) (t := t) (xs := xs) (ys := ys) (by omega) (fun R r => ⟨_, rfl, _, rfl, r a b H1 (Ex.refl _ _) (by rw [wo_nil]; exact hS) (by rw [wo_nil]; exact hS2)⟩) (fun _ z _ => z = .bl true) (fun _ _ => True)
        (fun H2 x2 => lcOk0 (by omega)) (fun H2 x2 i x y hx hy D T0 H' hD' nB e1 _ tD nTD hT0 N hN => ?_) (fun H2 x2 D zs H' hD' hz lz rz e1 _ => ?_)
      · obtain ⟨d, hd, hdD⟩ := dpa_get' hA hx
        obtain ⟨d', hd', hdD'⟩ := dpa_get' hA2 hy
        rw [hd] at hd'
        cases hd'
        have x4 := (x2.trans e1).le0
        refine ⟨T0, _, rfl, SqT.of hT0, rfl, _, _, rfl, _, _, rfl, rfl, rfl, _, rfl, _, rfl, x, y, d, rfl, dp_le x4 _ _ hdD, dp_le x4 _ _ hdD', hds d (List.mem_of_getElem? hd), fun H3 x3 => hN _ H3 x3 rfl trivial⟩
      · have ez : zs = (List.replicate xs.length true).map V.bl := by
          apply List.ext_getElem?
          intro j
          rw [List.map_replicate]
          by_cases c : j < zs.length
          · rw [List.getElem?_eq_getElem c, rz j _ (List.getElem?_eq_getElem c), List.getElem?_replicate, if_pos (by omega)]
          · rw [List.getElem?_eq_none (by omega), List.getElem?_eq_none (by rw [List.length_replicate]; omega)]
        refine ⟨D, List.replicate xs.length true, rfl, SqL.of (by rw [hz, ez]), ?_⟩
        have ea : (List.replicate xs.length true).all id = true := by
          rw [List.all_eq_true]
          intro z hz
          rw [List.eq_of_mem_replicate hz]
          rfl
        rw [ea]
        exact q H' ((x1.trans x2).trans e1)
    walk_at "un"
    cases d with
    | dict kvs => cases hU
    | list ds =>
      refine iteT ?_
      refine ⟨_, rfl, z_isi hU1 h1 ⟨_, rfl, z_isi hV1 h1 ⟨rfl, _, rfl, ?_⟩⟩⟩
      refine iteNS rfl ?_
      refine ⟨_, rfl, z_isi hU1 h2 ⟨_, rfl, z_isi hV1 h2 ⟨rfl, _, rfl, ?_⟩⟩⟩
      refine iteNS rfl ?_
      have dp := deep false ds rfl
      obtain ⟨a, xs, rfl, hS, hA⟩ := dp_sq (t := false) hU1
      obtain ⟨b, ys, rfl, hS2, hA2⟩ := dp_sq (t := false) hV1
      have ll := dpa_len hA
      have ll2 := dpa_len hA2
      refine ⟨_, rfl, _, _, rfl, hS.sq, _, rfl, _, _, rfl, hS2.sq, rfl, _, rfl, ?_⟩
      rw [ll, ll2, decide_eq_true rfl]
      exact iteT dp
    | tuple ds =>
      refine iteT ?_
      refine ⟨_, rfl, z_isi hU1 h1 ⟨_, rfl, z_isi hV1 h1 ⟨rfl, _, rfl, ?_⟩⟩⟩
      refine iteNS rfl ?_
      refine ⟨_, rfl, z_isi hU1 h2 ⟨_, rfl, z_isi hV1 h2 ⟨rfl, _, rfl, ?_⟩⟩⟩
      refine iteNS rfl ?_
      have dp := deep true ds rfl
      obtain ⟨a, xs, rfl, hS, hA⟩ := dp_sq (t := true) hU1
      obtain ⟨b, ys, rfl, hS2, hA2⟩ := dp_sq (t := true) hV1
      have ll := dpa_len hA
      have ll2 := dpa_len hA2
      refine ⟨_, rfl, _, _, rfl, hS.sq, _, rfl, _, _, rfl, hS2.sq, rfl, _, rfl, ?_⟩
      rw [ll, ll2, decide_eq_true rfl]
      exact iteT dp
    | none =>
      have hU2 := hU1
      have hV2 := hV1
      cases hU1
      cases hV1
      refine iteF ⟨_, rfl, rfl, _, rfl, iteT ⟨_, rfl, _, rfl, rfl, _, rfl, iteT ?_⟩⟩
      exact ⟨_, rfl, z_isi hU2 h5 ⟨_, rfl, z_isi hV2 h5 ⟨rfl, by rw [decide_eq_true rfl]; exact qt⟩⟩⟩
    | str b =>
      have hU2 := hU1
      have hV2 := hV1
      cases hU1
      cases hV1
      refine iteF ⟨_, rfl, rfl, _, rfl, iteF ⟨_, rfl, z_isi hV2 h5 ⟨_, rfl, iteT ⟨_, rfl, _, rfl, rfl, _, rfl, ?_⟩⟩⟩⟩
      rw [decide_eq_true rfl]
      exact iteT ⟨_, rfl, z_isi hU2 h5 ⟨_, rfl, z_isi hV2 h5 ⟨rfl, by rw [decide_eq_true rfl]; exact qt⟩⟩⟩
    | bool b =>
      have hU2 := hU1
      have hV2 := hV1
      cases hU1
      cases hV1
      refine iteF ⟨_, rfl, rfl, _, rfl, iteF ⟨_, rfl, z_isi hV2 h5 ⟨_, rfl, iteF ⟨_, rfl, z_isi hU2 h4 ⟨_, rfl, iteT ⟨_, rfl, z_isi hU2 h3 ⟨_, rfl, z_isi hV2 h3 ⟨rfl, _, rfl, ?_⟩⟩⟩⟩⟩⟩⟩⟩
      rw [decide_eq_true rfl]
      exact iteT ⟨_, rfl, _, rfl, rfl, by rw [decide_eq_true rfl]; exact qt⟩
    | int b =>
      have hU2 := hU1
      have hV2 := hV1
      cases hU1
      cases hV1
      refine iteF ⟨_, rfl, rfl, _, rfl, iteF ⟨_, rfl, z_isi hV2 h5 ⟨_, rfl, iteF ⟨_, rfl, z_isi hU2 h4 ⟨_, rfl, iteT ⟨_, rfl, z_isi hU2 h3 ⟨_, rfl, z_isi hV2 h3 ⟨rfl, _, rfl, ?_⟩⟩⟩⟩⟩⟩⟩⟩
      rw [decide_eq_true rfl]
      exact iteT ⟨_, rfl, _, rfl, rfl, by rw [decide_eq_true rfl]; exact qt⟩
theorem ok_same (T : Txt K mg) : ∀ N, FnOk P w K mg base CX0 (N + 1) T.a__law_same T.d__law_same P__law_same (spSame K N)
  | 0 => ok_same_one T 0 (fun _ _ _ _ => False) ⟨fun _ _ _ _ h => h.elim, fun _ _ _ _ _ _ _ _ _ _ _ _ _ h => h.elim⟩ (.inl rfl)
  | N + 1 => ok_same_one T (N + 1) (spSame K N) (ok_same T N) (.inr ⟨N, rfl, rfl⟩)
end
end Z28
set_option Elab.async false
set_option linter.all false
namespace Hz
open PySem
/-- how a hill stands -/
structure Now where
  day : Nat
  ant : Nat
  pot : Int
namespace Hill
def need (h : Hill) (i : Nat) : Int := (h.needs[i]?).getD 0
structure At (h : Hill) (s : Now) : Prop where
  op : h.isOpen s.day = true
  an : s.ant < h.needs.length
  p0 : 0 ≤ s.pot
  p1 : s.pot ≤ h.most
/-- what the pot would hold, one need taken, on evening m -/
def over (h : Hill) (s : Now) (m : Nat) : Int := s.pot + h.given m - h.given s.day - h.need s.ant
/-- the evening of the next turn -/
def Eve (h : Hill) (s : Now) (m : Nat) : Prop := s.day ≤ m ∧ h.isOpen m = true ∧ 0 ≤ h.over s m ∧ ∀ k, s.day ≤ k → k < m → h.isOpen k = true → h.over s k < 0
theorem eve_uniq {h : Hill} {s : Now} {a b : Nat} (x : h.Eve s a) (y : h.Eve s b) : a = b := by
  obtain ⟨x1, x2, x3, x4⟩ := x
  obtain ⟨y1, y2, y3, y4⟩ := y
  rcases Nat.lt_trichotomy a b with c | c | c
  · have := y4 a x1 c x2; omega
  · exact c
  · have := x4 b y1 c y2; omega
def goes (h : Hill) (s : Now) (m : Nat) : Now × Int := (⟨m, (s.ant + 1) % h.needs.length, min (h.over s m) h.most⟩, h.over s m - min (h.over s m) h.most)
def Turn (h : Hill) (s : Now) (r : Now × Int) : Prop := ∃ m, h.Eve s m ∧ r = h.goes s m
theorem turn_uniq {h : Hill} {s : Now} {a b : Now × Int} (x : h.Turn s a) (y : h.Turn s b) : a = b := by
  obtain ⟨m, x, rfl⟩ := x
  obtain ⟨n, y, rfl⟩ := y
  rw [eve_uniq x y]
theorem turn_at {h : Hill} {s : Now} {r : Now × Int} (hm : 0 ≤ h.most) (a : h.At s) (x : h.Turn s r) : h.At r.1 := by
  obtain ⟨m, ⟨x1, x2, x3, x4⟩, rfl⟩ := x
  exact ⟨x2, Nat.mod_lt _ (by have := a.an; omega), Int.le_min.mpr ⟨x3, hm⟩, Int.min_le_right _ _⟩
/-- a row of turns -/
def Rows (h : Hill) : Now → List (Now × Int) → Prop
  | _, [] => True
  | s, r :: l => h.Turn s r ∧ Rows h r.1 l
theorem rows_uniq {h : Hill} : ∀ {l l' : List (Now × Int)} {s : Now}, h.Rows s l → h.Rows s l' → l.length = l'.length → l = l'
  | [], [], _, _, _, _ => rfl
  | [], _ :: _, _, _, _, e => by simp at e
  | _ :: _, [], _, _, _, e => by simp at e
  | a :: l, b :: l', s, x, y, e => by
    obtain rfl := turn_uniq x.1 y.1
    rw [rows_uniq x.2 y.2 (by simpa using e)]
/-- how all stands behind a row -/
def lastOf (s : Now) : List (Now × Int) → Now
  | [] => s
  | r :: l => lastOf r.1 l
theorem rows_at {h : Hill} (hm : 0 ≤ h.most) : ∀ {l : List (Now × Int)} {s : Now}, h.At s → h.Rows s l → h.At (lastOf s l)
  | [], _, a, _ => a
  | r :: l, s, a, x => rows_at (l := l) (s := r.1) hm (turn_at hm a x.1) x.2
theorem rows_mem {h : Hill} (hm : 0 ≤ h.most) : ∀ {l : List (Now × Int)} {s : Now}, h.At s → h.Rows s l → ∀ r ∈ l, h.At r.1
  | [], _, _, _, _, hr => by simp at hr
  | r :: l, s, a, x, q, hq => by
    rcases List.mem_cons.mp hq with rfl | hq
    · exact turn_at hm a x.1
    · exact rows_mem hm (turn_at hm a x.1) x.2 q hq
theorem rows_snoc {h : Hill} : ∀ {l : List (Now × Int)} {s : Now} {r : Now × Int}, h.Rows s l → h.Turn (lastOf s l) r → h.Rows s (l ++ [r])
  | [], _, _, _, y => ⟨y, trivial⟩
  | _ :: _, _, _, x, y => ⟨x.1, rows_snoc x.2 y⟩
theorem last_snoc : ∀ {l : List (Now × Int)} {s : Now} {r : Now × Int}, lastOf s (l ++ [r]) = r.1
  | [], _, _ => rfl
  | _ :: l, _, _ => last_snoc (l := l)
theorem last_take : ∀ {l : List (Now × Int)} {s : Now} {n : Nat} {r : Now × Int}, l[n]? = some r → lastOf s (l.take (n + 1)) = r.1
  | r :: l, s, 0, q, e => by simp at e; subst e; rfl
  | r :: l, s, n + 1, q, e => last_take (l := l) (s := r.1) (by simpa using e)
  | [], _, _, _, e => by simp at e
theorem rows_drop {h : Hill} : ∀ {l : List (Now × Int)} {s : Now} (n : Nat), h.Rows s l → h.Rows (lastOf s (l.take n)) (l.drop n)
  | l, s, 0, x => by simpa [lastOf] using x
  | [], s, n + 1, x => by simp [Rows]
  | r :: l, s, n + 1, x => rows_drop (l := l) (s := r.1) n x.2
theorem rows_take {h : Hill} : ∀ {l : List (Now × Int)} {s : Now} (n : Nat), h.Rows s l → h.Rows s (l.take n)
  | l, s, 0, x => by simp [Rows]
  | [], s, n + 1, x => by simp [Rows]
  | r :: l, s, n + 1, x => ⟨x.1, rows_take (l := l) (s := r.1) n x.2⟩
/-- two that stand one behind the other in a row -/
theorem rows_next {h : Hill} : ∀ {l : List (Now × Int)} {s : Now} {n : Nat} {a b : Now}, h.Rows s l → (s :: l.map (·.1))[n]? = some a → (l.map (·.1))[n]? = some b → ∃ z, h.Turn a (b, z)
  | [], _, _, _, _, _, _, e => by simp at e
  | r :: l, s, 0, a, b, x, e1, e2 => by
    simp at e1 e2
    subst e1 e2
    exact ⟨r.2, x.1⟩
  | r :: l, s, n + 1, a, b, x, e1, e2 => rows_next (l := l) (s := r.1) x.2 (by simpa using e1) (by simpa using e2)
/-- the first evening by which so much was given is the turn's, when the pot lacks -/
theorem eve_dayOf {h : Hill} {s : Now} {m : Nat} (hN : h.Nn) (hL : 0 < h.L) (c : s.pot < h.need s.ant) (x : h.DayOf (h.given s.day + h.need s.ant - s.pot) m) : h.Eve s m := by
  obtain ⟨x1, x2, x3⟩ := x
  have l : s.day ≤ m := by
    rcases Nat.lt_or_ge m s.day with d | d
    · have := given_mono hN hL (Nat.le_of_lt d); omega
    · exact d
  refine ⟨l, x1, by unfold over; omega, fun k _ k2 k3 => ?_⟩
  have := x3 k k2 k3
  unfold over
  omega
theorem eve_now {h : Hill} {s : Now} (a : h.isOpen s.day = true) (c : h.need s.ant ≤ s.pot) : h.Eve s s.day :=
  ⟨Nat.le_refl _, a, by unfold over; omega, fun k k1 k2 _ => by omega⟩
/-- whole years over which the need isn't met -/
theorem eve_skip {h : Hill} {s : Now} {m k : Nat} (hN : h.Nn) (hL : 0 < h.L) (hd : 0 < h.drops) (c : k = 0 ∨ (k + 1 : Int) * h.drops ≤ h.need s.ant - s.pot) (x : h.Eve ⟨s.day + k * h.L, s.ant, s.pot + k * h.drops⟩ m) : h.Eve s m ∧ h.goes ⟨s.day + k * h.L, s.ant, s.pot + k * h.drops⟩ m = h.goes s m := by
  obtain ⟨x1, x2, x3, x4⟩ := x
  have g := given_year hL s.day k (h := h)
  have e : ∀ j, h.over ⟨s.day + k * h.L, s.ant, s.pot + k * h.drops⟩ j = h.over s j := fun j => by
    unfold over
    show s.pot + k * h.drops + h.given j - h.given (s.day + k * h.L) - h.need s.ant = _
    rw [g]
    omega
  refine ⟨⟨Nat.le_trans (Nat.le_add_right _ _) x1, x2, by rw [← e]; exact x3, fun j j1 j2 j3 => ?_⟩, ?_⟩
  · by_cases q : s.day + k * h.L ≤ j
    · rw [← e]; exact x4 j q j2 j3
    · rcases c with rfl | c
      · exact absurd (by omega) q
      · have m := given_mono hN hL (show j ≤ s.day + k * h.L by omega)
        rw [g] at m
        have e2 : ((k : Int) + 1) * h.drops = k * h.drops + h.drops := by rw [Int.add_mul, Int.one_mul]
        rw [e2] at c
        unfold over
        omega
  · unfold goes
    rw [e]
theorem eve_ex {h : Hill} {s : Now} (hN : h.Nn) (hL : 0 < h.L) (hd : 0 < h.drops) (a : h.isOpen s.day = true) : ∃ m, h.Eve s m := by
  by_cases c : s.pot < h.need s.ant
  · obtain ⟨m, x⟩ := dayOf_ex hN hL ⟨_, List.mem_of_getElem? (at_day hL s.day).choose_spec.1, by rw [← (at_day hL s.day).choose_spec.2.2]; exact a⟩ hd (h.given s.day + h.need s.ant - s.pot)
    exact ⟨m, eve_dayOf hN hL c x⟩
  · exact ⟨_, eve_now a (Int.not_lt.mp c)⟩
end Hill
abbrev Now.dat (t : Bool) (s : Now) : PyData := sq t [.int s.day, .int s.ant, .int s.pot]
abbrev rowD (r : Now × Int) : PyData := sq true [r.1.dat true, .int r.2]
end Hz
namespace Hz
open PySem L2
theorem le_wo {B : List Addr} {H H' : Hp} (e : Ex B H H') (h : ∀ b ∈ B, H b = none) : Le H (wo B H') := fun a o q => by
  refine wo_of (fun z => ?_) (e.1 a o (fun z => ?_) q) <;> · rw [h a z] at q; cases q
theorem le_woT {B : List Addr} {H H' : Hp} (e : Le H H') : Le (wo B H) (wo B H') := fun a o q => by
  obtain ⟨n, q⟩ := wo_some q
  exact wo_of n (e a o q)
/-- a value made anew -/
def Fr (K : PySem.W.Frag) (H H' : Hp) (v : V) (d : PyData) : Prop := ∀ B : List Addr, (∀ b ∈ B, H b ≠ none) → Dp K (wo B H') v d
theorem Fr.dp {K : PySem.W.Frag} {H H' : Hp} {v : V} {d : PyData} (h : Fr K H H' v d) : Dp K H' v d := by
  have := h [] (by simp)
  rwa [wo_nil] at this
theorem Fr.le {K : PySem.W.Frag} {H H1 H2 : Hp} {v : V} {d : PyData} (h : Fr K H H1 v d) (e : Le H1 H2) : Fr K H H2 v d := fun B hB => dp_le (le_woT e) _ _ (h B hB)
theorem Fr.back {K : PySem.W.Frag} {H H1 H2 : Hp} {v : V} {d : PyData} (e : Ex [] H H1) (h : Fr K H1 H2 v d) : Fr K H H2 v d := fun B hB => h B fun b hb z => hB b hb (e.free z)
theorem Fr.int {K : PySem.W.Frag} {H H' : Hp} (i : Int) : Fr K H H' (.int i) (.int i) := fun _ _ => .int i
theorem Fr.tup {K : PySem.W.Frag} {H H1 : Hp} {p : Addr} {xs : List V} {ds : List PyData} (hp : H1 p = none) (e : Ex [] H H1) (h : ∀ B : List Addr, (∀ b ∈ B, H b ≠ none) → DpAll K (wo B H1) xs ds) : Fr K H (upd H1 p (.tup xs)) (.ref p) (sq true ds) := fun B hB => by
  have np : p ∉ B := fun z => hB p z (e.free hp)
  exact .tup (SqT.of (wo_of np upd_same)) (dpa_le (le_woT fun a o q => (Ex.new (B := []) hp).1 a o (by simp) q) _ _ (h B hB))
end Hz
set_option Elab.async false
set_option linter.all false
set_option maxRecDepth 100000
set_option maxHeartbeats 2000000
namespace Hz
open PySem PySem.Spec PyProof.Rows L2
/-! ### defs that ask for a repr: no repr is under way where they are called -/
structure FnG (P : Program) (w : World) (K : PySem.W.Frag) (mg : Str → Option Value) (base : Heap) (k : Nat) (f : Addr) (fd : FuncData) (ps : List Str) (sp : Sp) : Prop where
  len : ∀ vs H Q E, sp vs H Q E → vs.length = ps.length
  go : ∀ (A : Around) (outer : List Env) (s : Shared) (H : Hp) (args : Args) (us : List Value) (vs : List V) (Q : VK) (E : XK),
    Room k A → A.guards = some [] → Env0 P w K mg base A outer s H → BindsTo s fd args (ps.zip us) → Vals vs us → sp vs H Q E → codeAny (model P w) A (.call (.ref f) args) (CR CX0 outer P w H s Q E) s
section
variable {P : Program} {w : World} {K : PySem.W.Frag} {mg : Str → Option Value} {base : Heap} {k : Nat} {f : Addr} {fd : FuncData} {ps : List Str} {sp : Sp}
/-- the body of such a def -/
theorem okG {x qual : Str} {st : Stmt} {N : List Str} (F : Fun K x qual st f fd) (S : FnScope N ps (defScope st)) (len : ∀ vs H Q E, sp vs H Q E → vs.length = ps.length)
    (body : ∀ (cdv : Value) (A : Around) (outer : List Env) (s : Shared) (H : Hp) (vs : List V) (Q : VK) (E : XK), Room k (A.deeper (envOfC qual (defScope st) s.heap.objs.size f cdv)) → A.guards = some [] → sp vs H Q E →
      ∃ t, PSs (cxOf CX0 P w K mg base N qual (defScope st) f cdv A outer s H E).nox (defBody st) t ∧ t { nx := fun _ H' => Q .non H', rt := Q } (start N vs) H) : FnG P w K mg base (k + 1) f fd ps sp := by
  obtain ⟨oc, od, kV, doc, pm, an, cdv, ct, osl, rfl, lk, code⟩ := F.ex
  refine ⟨len, fun A outer s H args us vs Q E room gd e0 bd rv want => ?_⟩
  have inK : K.In s.heap := e0.mod.kin.keeps fun b o e => (e0.bs b o e).1
  have noLim : s.heap.NoLimit := e0.mod.nolimit.keeps fun b o e => (e0.bs b o e).1
  have places : ∀ y ∈ ps.zip us, (defScope st).names.lookup y.1 = some .local ∨ ((defScope st).names.lookup y.1 = some .cell ∧ ((cellsFrom (s.heap.objs.size + 1) (defScope st).names []).lookup y.1).isSome = true) := by
    rintro ⟨n, v⟩ hy
    exact (S.par n (List.of_mem_zip hy).1).elim .inl fun q => .inr ⟨q, PySem.W.cellsFrom_some _ _ _ (.inl q)⟩
  refine codeAny_call_function room.depth (inK _ _ lk) rfl S.co S.gen rfl (PySem.W.codeRec_of inK code) (bd _ _ _ _ ?_)
  refine wpAny_newFunctionEnv_cells S.kind places fun env made s1 x => ?_
  subst made
  refine ⟨noLim.keeps x.toInCall.keep, codeAny_func ?_⟩
  obtain ⟨t, ht, hq⟩ := body cdv A outer s H vs Q E (room.deeper _) gd want
  refine wpAny_mono (ht.nox.run [] s1 (start N vs) H _ (inv_start S room.hd e0 (len _ _ _ _ want) rv x) hq) (fun fl s' ends => ?_) fun _ _ z => z
  match fl, ends with
  | .ret u, ⟨v, σ', H', J, r, q⟩ => exact ⟨v, H', J.os, J.bare, J.base, J.hok, r, q⟩
  | .next, ⟨σ', H', J, q⟩ => exact ⟨V.non, H', J.os, J.bare, J.base, J.hok, rfl, q⟩
  | .brk, ⟨_, _, _, q⟩ => exact q.elim
  | .cont, ⟨_, _, _, q⟩ => exact q.elim
end
section
variable {X : Cx} {k : Nat} {f : Addr} {fd : FuncData} {ps : List Str} {sp : Sp} {x : Str} {p pos : Pos} {e : Expr} {es : List Expr} {t : TA}
/-- its call by name -/
theorem pe_callG (F : FnG X.prog X.w X.K X.mg X.base k f fd ps sp) (room : Room k X.A) (gd : X.A.guards = some []) (glob : Gl X x) (stands : X.mg x = some (.ref f)) (kept : PySem.W.keepIn X.K (.ref f) = true) (bd : Binds X.K fd ps [])
    (ha : PA X (e :: es) t) (nd : (x == ("__debug__" : Str)) = false := by decide) (plain : starEach (e :: es) X.env = (false, eval e X.env) :: starEach es X.env := by rfl) (nostar : (backTo pos (starEach es X.env)).any (·.1) = false := by rfl) :
    PE X (.Call (.Name x p) (e :: es) [] pos) (tCall sp [] E0 t) := by
  refine ⟨fun pins s σ H Q J h => wpAny_Call_Name_kw (ld_glob J glob stands ?_ nd)⟩
  refine PySem.W.callWith_K (h₀ := X.base) J.ok.mod.kin kept (thn (ha.run pos pins s σ H _ J h) fun us s1 ⟨vs, H1, J1, rv, want⟩ => ⟨J1.kIn, ?_⟩) plain nostar
  have rv' : Vals (vs ++ []) (us ++ []) := rv.append .nil
  have many : (us ++ []).length = ps.length := by rw [← rv'.length]; exact F.len _ _ _ _ want
  refine wpAny_call (codeAny_mono (F.go X.A X.stack s1 H1 ⟨us, []⟩ (us ++ []) (vs ++ []) Q E0 room gd J1.env0 (bd s1 us J1.kIn many) rv' want) fun r s' hq => ?_)
  match r, hq with
  | .ok (.ret u), hq => exact J1.after hq
  | .ok .next, hq => exact hq.elim
  | .ok .brk, hq => exact hq.elim
  | .ok .cont, hq => exact hq.elim
  | .error _, hq => exact hq.elim
/-- repr of data -/
def rRepr (K : PySem.W.Frag) : List V → Hp → VK → Prop := fun xs H Q => ∃ (x : V) (d : PyData), xs = [x] ∧ Dp K H x d ∧ d.showable = true ∧ d.hasDict = false ∧ d.depth ≤ 20 ∧ d.shown.length ≤ sizeLine ∧ (∃ a, x = .ref a) ∧ Q (.str d.shown) H
theorem reprK (K : PySem.W.Frag) (units : X.A.units + 64 < cLine) (gd : X.A.guards = some []) (h : X.K = K := by rfl) : CallR X (.builtin "repr") (rRepr K) := by
  subst h
  intro pins s σ H xs us Q J rv ⟨x, d, ex, hd, h1, h2, h3, h4, ⟨a, ea⟩, q⟩
  subst ex
  subst ea
  obtain ⟨u, rfl, r⟩ := Vals.one rv
  obtain ⟨as, rd⟩ := Dp.reads J d _ u hd r
  cases r
  exact repr_of_reads' rd h1 (PyData.noDict_hsm h2) gd (by omega) (fun _ _ z => z) (fun h' t tk hk => ⟨.str d.shown, H, J.kept hk, ⟨_, rfl⟩, q⟩) h4
end

section
variable {X : Cx}
/-- parts by a list or a tuple -/
def gSq (K : PySem.W.Frag) (n : Nat) (t : TGs) : TG := fun v σ H Q => gUnl K n t v σ H Q ∨ gTup K n t v σ H Q
theorem pg_seqK (K : PySem.W.Frag) (n : Nat) {es : List Expr} {k : Nat} {t : TGs} {pos : Pos} (hc : X.calm = true) (h : PGs X es t) (hK : X.K = K := by rfl) (hn : (assignEach es X.env).length = n := by rfl) (hst : (assignEach es X.env).findIdx? (·.1) = none := by rfl) : PG X (.Tuple es k pos) (gSq K n t) := by
  subst hK
  refine ⟨fun pins s σ H v u Q I r hw => ?_⟩
  rcases hw with hw | hw
  · exact (pg_unl hc h hn hst).run pins s σ H v u Q I r hw
  · exact (pg_tup hc h hn hst).run pins s σ H v u Q I r hw
end
/-! ### the law's own call -/
theorem law_runG {P : Program} {w : World} {K : PySem.W.Frag} {mg mb : Str → Option Value} {k : Nat} {fa a : Addr} {fd : FuncData} {x : Str} {sp : Sp} {s1 : Shared} {vs : List Value} {ns : List Int}
    (inK : K.In s1.heap) (names : s1.heap.Ns mainGlobals mg) (blt : s1.heap.Ns builtinsNs mb) (boot : ∀ x : Str, x ≠ "__name__" → mb x = bootBuiltins x) (lim : s1.heap.NoLimit) (gens : s1.gens = #[])
    (at_ : s1.heap.get? a = some { cls := .type "list", data := .seq vs.toArray }) (hints : IntsAre vs ns) (few : ns.length ≤ sizeLine) (room : Room k callerA)
    (F : ∀ base : Heap, K.In base → base.Ns mainGlobals mg → FnG P w K mg base k fa fd [x] sp) (bd : ∀ (s : Shared) (u : Value), BindsTo s fd ⟨[u], []⟩ [(x, u)])
    (want : ∀ H : Hp, Only H → SqL K H a (ns.map V.int) → sp [.ref a] H (fun v _ => v = .bl true) fun _ _ _ => False) :
    codeAny (model P w) callerA (.call (.ref fa) ⟨[.ref a], []⟩) (fun r s' => r = .ok (.ret (.bool true)) ∧ OldK s1.heap s'.heap ∧ s'.os = s1.os ∧ AllBare s'.gens) s1 := by
  have rv := vals_ints hints
  -- either the script is one of the module's own objects (nothing is tracked), or it is the only thing tracked, locked
  have run : ∀ H : Hp, Only H → SqL K H a (ns.map V.int) → HOk P w H s1.heap → (∀ b, H b ≠ none → b = a ∧ K.lookup a = none) →
      codeAny (model P w) callerA (.call (.ref fa) ⟨[.ref a], []⟩) (fun r s' => r = .ok (.ret (.bool true)) ∧ OldK s1.heap s'.heap ∧ s'.os = s1.os ∧ AllBare s'.gens) s1 := by
    intro H only there hok just
    have untracked : ∀ b, (b = a → K.lookup a ≠ none) → H b = none := fun b hb => by
      cases q : H b with
      | none => rfl
      | some u =>
        obtain ⟨e1, e2⟩ := just b (by rw [q]; exact fun z => nomatch z)
        exact absurd e2 (hb e1)
    have dictFree : ∀ {b : Addr} {o : Obj} {es : Array DictEntry} {ep : Nat}, s1.heap.get? b = some o → o.data = .dict es ep → H b = none := fun {b o es ep} e d => by
      cases q : H b with
      | none => rfl
      | some u =>
        obtain ⟨e1, _⟩ := just b (by rw [q]; exact fun z => nomatch z)
        rw [e1, at_] at e
        cases e
        exact nomatch (show Data.seq vs.toArray _ = Data.dict es ep from d)
    have nsB : ∀ {b : Addr} {m : Str → Option Value}, s1.heap.Ns b m → (hidT s1.heap H).Ns b m := fun ⟨o, es, ep, e, d, r⟩ => ⟨o, es, ep, hidT_get e (dictFree e d), d, r⟩
    have inB : K.In (hidT s1.heap H) := fun b o e => hidT_get (inK b o e) (untracked b fun z => by rw [← z, e]; exact fun q => nomatch q)
    have md : Mod K mg (hidT s1.heap H) := ⟨inB, nsB names, ⟨mb, nsB blt, boot⟩, lim.elim fun mc hc => ⟨mc, nsB hc.1, hc.2⟩⟩
    have e0 : Env0 P w K mg (hidT s1.heap H) callerA [] s1 H := ⟨rfl, md, fun _ _ e => of_hidT e, Nat.le_of_eq (hidT_size _ _), trivial, fun b hb => (nomatch (show b ∈ ([] : List Addr) from hb)), hok, .of_eq gens⟩
    refine codeAny_mono ((F _ inB (nsB names)).go callerA [] s1 H ⟨[.ref a], []⟩ [.ref a] [.ref a] _ _ room rfl e0 (bd s1 (.ref a)) (.cons rfl .nil) (want H only there)) fun r s' hr => ?_
    match r, hr with
    | .error _, hr => exact hr.elim
    | .ok .next, hr => exact hr.elim
    | .ok .brk, hr => exact hr.elim
    | .ok .cont, hr => exact hr.elim
    | .ok (.ret u), ⟨v, H2, os, bare, un, hok2, r2, q⟩ =>
      obtain rfl : v = .bl true := q
      obtain rfl : u = Value.bool true := r2
      refine ⟨rfl, OldK.of_keep fun b o e => ?_, os, bare⟩
      rcases only b with z | ⟨ob, xs, z⟩
      · exact un.keep b o e z (fun m => nomatch (show b ∈ ([] : List Addr) from m)) (by simp)
      · have e2 := (hok2 b _ (un.frzs b ob _ z)).1
        rw [show s1.heap.get? b = some ob from (hok b _ z).1] at e
        cases e
        exact e2
  by_cases own : ∃ o, K.lookup a = some o
  · obtain ⟨o, ho⟩ := own
    have e := inK a o ho
    rw [at_] at e
    cases e
    exact run (fun _ => none) (fun _ => .inl rfl) (.inr ⟨_, vs.toArray, _, ho, rfl, rfl, rfl, by rw [List.size_toArray, hints.length]; exact few, by simpa using rv⟩) (fun _ _ z => nomatch (show (none : Option HO) = some _ from z)) fun b z => absurd rfl z
  · have none_ : K.lookup a = none := by
      cases q : K.lookup a with
      | none => rfl
      | some o => exact absurd ⟨o, q⟩ own
    refine run (fun b => if b = a then some (.frz { cls := .type "list", data := .seq vs.toArray } (.lst (ns.map V.int))) else none) (fun b => ?_) (.inl (.inr ⟨_, if_pos rfl⟩)) (fun b u z => ?_) (fun b z => ⟨?_, none_⟩)
    · by_cases hb : b = a
      · exact .inr ⟨_, _, if_pos hb⟩
      · exact .inl (if_neg hb)
    · by_cases hb : b = a
      · cases (if_pos hb).symm.trans z
        subst hb
        exact ⟨at_, by rw [List.length_map]; exact few, vs, _, rv, at_⟩
      · exact nomatch (if_neg hb).symm.trans z
    · exact Decidable.byContradiction fun hb => z (if_neg hb)
theorem walk_G {l : PySem.W.OpenLaw} {n k : Nat} {q : Program} {loose : List Str} {XP : (Str → Option Value) → Heap → Prop} {YP : World → Heap → Prop} {d : DefRec} {K : Params → PySem.W.Frag} {sp : World → Sp} {x : Str}
    (most : l.most = some n) (few : n ≤ sizeLine) (nodf : d.params.defaults = []) (room : Room k callerA) (hY : ∀ (w : World) (h : Heap), YP w h → (K w.params).In h)
    (F : ∀ (w : World) (mg : Str → Option Value) (fa : Addr) (h : Heap), (K w.params).In h → h.Ns mainGlobals mg → mg d.name = some (.ref fa) →
      ∃ fd : FuncData, (∀ (s : Shared) (u : Value), BindsTo s fd ⟨[u], []⟩ [(x, u)]) ∧ ∀ base : Heap, (K w.params).In base → base.Ns mainGlobals mg → FnG l.prog w (K w.params) mg base k fa fd [x] (sp w))
    (want : ∀ (w : World) (H : Hp) (a : Addr) (ns : List Int), ns.length ≤ n → Only H → SqL (K w.params) H a (ns.map V.int) → sp w [.ref a] H (fun v _ => v = .bl true) fun _ _ _ => False) :
    PySem.W.WalkO q loose XP YP l.row.toRowW d [] (fun f vs => PySem.call f vs) := by
  refine Att.attach_call most nodf fun w s0 s1 mg mb fa o pm cd doc a vs ns G Y ho hd hcd stands script hints len gens => ?_
  obtain ⟨fd, bd, hF⟩ := F w mg fa _ (hY w _ Y) G.T.g stands
  exact law_runG (hY w _ Y) G.T.g G.T.b G.T.builtins G.T.nolimit gens script hints (Nat.le_trans len few) room hF bd fun H hO hS => want w H a ns len hO hS
end Hz
set_option Elab.async false
set_option linter.all false
set_option maxRecDepth 100000
set_option maxHeartbeats 4000000
namespace Z28
open PySem PySem.Spec PyProof.Rows L2 Hz
section
variable {P : Program} {w : World} {K : PySem.W.Frag} {mg : Str → Option Value} {base : Heap}
local macro_rules | `(tactic| walk_at "un") => `(tactic| dsimp only [tSeq, tIfS, tRet, tAsg, tDrop, tOr, tAnd, tNot, tAndV, tOrV, tNotV, tTest, tB, tOp, tUn, tCB, tCons, tNil, tC, tNext, tIf, tChain, gName, tPar, tPar3, tTup, tLst])
theorem z_gSq {t : Bool} {H : Hp} {a : Addr} {xs : List V} {n : Nat} {ts : TGs} {σ : L2.St} {Q : L2.St → Hp → Prop} (h : SqX t K H a xs) (hl : xs.length = n) (k : ts xs σ H Q) : gSq K n ts (.ref a) σ H Q := by
  cases t with
  | true => exact .inr ⟨a, xs, rfl, h, hl, k⟩
  | false => exact .inl ⟨a, xs, rfl, h, hl, k⟩
theorem now_parts {t : Bool} {H : Hp} {v : V} {s : Now} (h : Dp K H v (s.dat t)) : ∃ a, v = .ref a ∧ SqX t K H a [.int s.day, .int s.ant, .int s.pot] := by
  obtain ⟨a, xs, rfl, hS, hA⟩ := dp_sq h
  obtain rfl := dpa_ints (ns := [(s.day : Int), s.ant, s.pot]) hA
  exact ⟨a, rfl, hS⟩
theorem need_at {h : Hill} {i : Nat} (hi : i < h.needs.length) : (h.needs.map PyData.int)[i]? = some (.int (h.need i)) := by
  unfold Hill.need
  rw [List.getElem?_map, List.getElem?_eq_getElem hi]
  rfl
theorem min_if (i j : Int) : (if j < i then j else i) = min i j := by
  rw [Int.min_def]
  split <;> split <;> omega
end
end Z28
set_option Elab.async false
set_option linter.all false
set_option maxRecDepth 100000
set_option maxHeartbeats 4000000
namespace Z28
open PySem PySem.Spec PyProof.Rows L2 Hz
section
variable {P : Program} {w : World} {K : PySem.W.Frag} {mg : Str → Option Value} {base : Heap}
local macro_rules | `(tactic| walk_at "un") => `(tactic| dsimp only [tSeq, tIfS, tRet, tAsg, tDrop, tOr, tAnd, tNot, tAndV, tOrV, tNotV, tTest, tB, tOp, tUn, tCB, tCons, tNil, tC, tNext, tIf, tChain, gName, tPar, tPar3, tTup, tLst])
theorem lx {B : List Addr} {H H' : Hp} (x : Ex B H H') : Le (wo B H) H' := Le.trans x.wo (wo_le _ _)
theorem day_get {h : Hill} {t : Bool} (i : Nat) (hi : i < h.L) : (h.year.map fun d : Int × Bool => sq t [.int d.1, .bool d.2])[i]? = some (sq t [.int (h.drop i), .bool (h.isOpen i)]) := by
  obtain ⟨d, hd, e1, e2⟩ := Hill.at_day (show 0 < h.L by omega) i
  rw [Nat.mod_eq_of_lt hi] at hd
  rw [List.getElem?_map, hd, e1, e2]
  rfl
end
end Z28
set_option Elab.async false
set_option linter.all false
namespace Hz
namespace Hill
/-! ### lines: what is lost at a number -/
theorem dayOf_year {h : Hill} (hL : 0 < h.L) (hN : h.Nn) {t : Int} {m : Nat} (x : h.DayOf t m) (t1 : 1 ≤ t) (j : Nat) : h.DayOf (t + j * h.drops) (m + j * h.L) := by
  obtain ⟨x1, x2, x3⟩ := x
  refine ⟨by rw [isOpen_year]; exact x1, by rw [given_year hL]; omega, fun k hk ho => ?_⟩
  by_cases c : j * h.L ≤ k
  · obtain ⟨i, rfl⟩ : ∃ i, k = i + j * h.L := ⟨k - j * h.L, by omega⟩
    rw [isOpen_year] at ho
    rw [given_year hL]
    have := x3 i (by omega) ho
    omega
  · -- ahead of those years no more than their drops was given
    have h1 := ge_mono hN hL (show k + 1 ≤ 0 + j * h.L by omega)
    rw [ge_year hL, ge_zero] at h1
    show h.ge (k + 1) < _
    omega
/-- z is lost at number y -/
def Lost (h : Hill) (y z : Int) : Prop := ∃ (k : Int) (m : Nat), 1 ≤ y + k * h.drops ∧ h.DayOf (y + k * h.drops) m ∧ z = max 0 (h.given m - h.most - (y + k * h.drops))
theorem lost_uniq {h : Hill} (hL : 0 < h.L) (hN : h.Nn) {y a b : Int} (x : h.Lost y a) (x' : h.Lost y b) : a = b := by
  have key : ∀ (k k' : Int) (m m' : Nat), k ≤ k' → 1 ≤ y + k * h.drops → h.DayOf (y + k * h.drops) m → h.DayOf (y + k' * h.drops) m' → h.given m' = h.given m + (k' - k) * h.drops := fun k k' m m' l p d d' => by
    obtain ⟨j, hj⟩ := Int.eq_ofNat_of_zero_le (show 0 ≤ k' - k by omega)
    have e := dayOf_year hL hN d p j
    have e2 : y + k * h.drops + j * h.drops = y + k' * h.drops := by
      have : k' = k + j := by omega
      rw [this, Int.add_mul]; omega
    rw [e2] at e
    rw [dayOf_uniq d' e, given_year hL, hj]
  obtain ⟨k, m, p, d, rfl⟩ := x
  obtain ⟨k', m', p', d', rfl⟩ := x'
  rcases Int.le_total k k' with l | l
  · have := key k k' m m' l p d d'
    rw [Int.sub_mul] at this
    rw [this]
    omega
  · have := key k' k m' m l p' d' d
    rw [Int.sub_mul] at this
    rw [this]
    omega
theorem lost_ex {h : Hill} (hL : 0 < h.L) (hN : h.Nn) (ho : ∃ d, d ∈ h.year ∧ d.2 = true) (hd : 0 < h.drops) (y : Int) : ∃ z, h.Lost y z := by
  have e := Int.mul_ediv_add_emod y h.drops
  have e0 := Int.emod_nonneg y (show h.drops ≠ 0 by omega)
  obtain ⟨m, hm⟩ := dayOf_ex hN hL ho hd (y + (1 - y / h.drops) * h.drops)
  refine ⟨_, 1 - y / h.drops, m, ?_, hm, rfl⟩
  rw [Int.sub_mul, Int.one_mul, Int.mul_comm (y / h.drops)]
  omega
theorem Lost.nn {h : Hill} {y z : Int} (x : h.Lost y z) : 0 ≤ z := by
  obtain ⟨k, m, _, _, rfl⟩ := x
  omega
/-- so many years more -/
theorem Lost.year {h : Hill} {y z : Int} (x : h.Lost y z) (j : Int) : h.Lost (y + j * h.drops) z := by
  obtain ⟨k, m, p, d, rfl⟩ := x
  have e : y + j * h.drops + (k - j) * h.drops = y + k * h.drops := by rw [Int.sub_mul]; omega
  exact ⟨k - j, m, by rw [e]; exact p, by rw [e]; exact d, by rw [e]⟩
theorem lost_of {h : Hill} {y : Int} {m : Nat} (p : 1 ≤ y) (d : h.DayOf y m) : h.Lost y (max 0 (h.given m - h.most - y)) := by
  have e : y + 0 * h.drops = y := by rw [Int.zero_mul]; omega
  exact ⟨0, m, by omega, by rw [e]; exact d, by rw [e]⟩
/-- nothing is lost below an open evening that brings little more -/
theorem lost_none {h : Hill} (hL : 0 < h.L) (hN : h.Nn) {y z : Int} {n : Nat} (x : h.Lost y z) (ho : h.isOpen n = true) (g : y ≤ h.given n) (l : h.given n - y ≤ h.most) : z = 0 := by
  -- years enough, that the number be above nought
  obtain ⟨k0, m0, p0, d0, _⟩ := x
  have hd : 0 < h.drops ∨ h.drops ≤ 0 := by omega
  have xx : h.Lost y z := ⟨k0, m0, p0, d0, by assumption⟩
  -- k ≥ 0 may be taken
  obtain ⟨j, hj0, hj⟩ : ∃ j : Nat, (k0 : Int) ≤ j ∧ 1 ≤ y + j * h.drops ∧ True := by
    by_cases c : 0 ≤ k0
    · obtain ⟨j, hj⟩ := Int.eq_ofNat_of_zero_le c
      exact ⟨j, by omega, by rw [← hj]; exact p0, trivial⟩
    · refine ⟨0, by omega, ?_, trivial⟩
      have hdn : 0 ≤ h.drops := by
        have := ge_mono hN hL (Nat.zero_le h.L)
        have e := ge_year hL 0 1 (h := h)
        rw [Nat.one_mul, Nat.zero_add, ge_zero] at e
        rw [ge_zero] at this
        omega
      have : k0 * h.drops ≤ 0 := Int.mul_nonpos_of_nonpos_of_nonneg (by omega) hdn
      show 1 ≤ y + ((0 : Nat) : Int) * h.drops
      rw [Int.ofNat_zero, Int.zero_mul]
      omega
  obtain ⟨m, hm⟩ : ∃ m, h.DayOf (y + j * h.drops) m := by
    obtain ⟨i, hi⟩ := Int.eq_ofNat_of_zero_le (show 0 ≤ (j : Int) - k0 by omega)
    have e := dayOf_year hL hN d0 p0 i
    have e2 : y + k0 * h.drops + i * h.drops = y + j * h.drops := by
      have : (j : Int) = k0 + i := by omega
      rw [this, Int.add_mul]; omega
    rw [e2] at e
    exact ⟨_, e⟩
  have lo := lost_uniq hL hN xx ⟨j, m, hj.1, hm, rfl⟩
  have ml : m ≤ n + j * h.L := by
    refine Nat.not_lt.mp fun c => ?_
    have := hm.2.2 _ c (by rw [isOpen_year]; exact ho)
    rw [given_year hL] at this
    omega
  have := given_mono hN hL ml
  rw [given_year hL] at this
  rw [lo]
  omega
/-- a turn leads the line by the need, and by what is lost there -/
theorem turn_line {h : Hill} (hL : 0 < h.L) (hN : h.Nn) (hn : ∀ m ∈ h.needs, 0 ≤ m) {s : Now} {m : Nat} {z : Int} (a : h.At s) (e : h.Eve s m) (x : h.Lost (h.given s.day - s.pot + h.need s.ant) z) :
    z = h.over s m - min (h.over s m) h.most ∧ h.given m - min (h.over s m) h.most = h.given s.day - s.pot + h.need s.ant + z := by
  have eo : h.over s m = h.given m - (h.given s.day - s.pot + h.need s.ant) := by unfold over; omega
  have hneed : 0 ≤ h.need s.ant := by
    unfold need
    cases q : h.needs[s.ant]? with
    | none => exact Int.le_refl _
    | some v => exact hn v (List.mem_of_getElem? q)
  have p0 := a.p0
  have p1 := a.p1
  by_cases c : s.pot < h.need s.ant
  · have g0 : 0 ≤ h.given s.day := by
      have := ge_mono hN hL (Nat.zero_le (s.day + 1))
      rw [ge_zero] at this
      exact this
    obtain ⟨k, hk⟩ : ∃ k, h.DayOf (h.given s.day + h.need s.ant - s.pot) k := by
      have ho : ∃ d, d ∈ h.year ∧ d.2 = true := ⟨_, List.mem_of_getElem? (at_day hL s.day).choose_spec.1, by rw [← (at_day hL s.day).choose_spec.2.2]; exact a.op⟩
      obtain ⟨k0, m0, q1, q2, _⟩ := x
      by_cases hd : 0 < h.drops
      · exact dayOf_ex hN hL ho hd _
      · obtain ⟨e1, e2, e3, e4⟩ := e
        refine ⟨m, e2, by unfold over at e3; omega, fun j hj ho => ?_⟩
        by_cases cj : s.day ≤ j
        · have := e4 j cj hj ho
          unfold over at this
          omega
        · have := given_mono hN hL (show j ≤ s.day by omega)
          omega
    have em := eve_uniq e (eve_dayOf hN hL c hk)
    subst em
    have ey : h.given s.day + h.need s.ant - s.pot = h.given s.day - s.pot + h.need s.ant := by omega
    rw [ey] at hk
    have lz := lost_uniq hL hN x (lost_of (by omega) hk)
    omega
  · have em := eve_uniq e (eve_now a.op (Int.not_lt.mp c))
    subst em
    have := lost_none hL hN x a.op (by omega) (by omega)
    omega
/-- the evening of the new line -/
theorem eve_line {h : Hill} (hL : 0 < h.L) (hN : h.Nn) (hn : ∀ m ∈ h.needs, 0 ≤ m) {s : Now} {m : Nat} (a : h.At s) (e : h.Eve s m) : (h.given m - min (h.over s m) h.most ≤ 0 → m = s.day) ∧
    ∀ d, 0 < h.given m - min (h.over s m) h.most → h.DayOf (h.given m - min (h.over s m) h.most) d → m = max s.day d := by
  have p0 := a.p0
  have g0 : 0 ≤ h.given s.day := by
    have := ge_mono hN hL (Nat.zero_le (s.day + 1))
    rw [ge_zero] at this
    exact this
  refine ⟨fun c => ?_, fun d c x => ?_⟩
  · by_cases c2 : s.pot < h.need s.ant
    · exfalso
      have : h.over s m = s.pot + h.given m - h.given s.day - h.need s.ant := rfl
      omega
    · exact eve_uniq e (eve_now a.op (Int.not_lt.mp c2))
  · have dm : d ≤ m := by
      refine Nat.not_lt.mp fun q => ?_
      have := x.2.2 m q e.2.1
      have := e.2.2.1
      have : 0 ≤ h.most := by have := a.p1; omega
      omega
    have h1 := e.1
    by_cases c3 : m = s.day
    · omega
    · -- later than now: no open day ahead brings as much
      have md : m ≤ d := by
        refine Nat.not_lt.mp fun q => ?_
        by_cases c4 : s.day ≤ d
        · have := e.2.2.2 d c4 q x.1
          have g := x.2.1
          have eo : h.over s m = s.pot + h.given m - h.given s.day - h.need s.ant := rfl
          have eo2 : h.over s d = s.pot + h.given d - h.given s.day - h.need s.ant := rfl
          omega
        · have := e.2.2.2 s.day (Nat.le_refl _) (by omega) a.op
          have g := x.2.1
          have gm := given_mono hN hL (show d ≤ s.day by omega)
          have eo : h.over s m = s.pot + h.given m - h.given s.day - h.need s.ant := rfl
          have eo2 : h.over s s.day = s.pot + h.given s.day - h.given s.day - h.need s.ant := rfl
          omega
      omega
end Hill
end Hz
set_option Elab.async false
set_option linter.all false
set_option maxRecDepth 100000
set_option maxHeartbeats 4000000
namespace Z28
open PySem PySem.Spec PyProof.Rows L2 Hz
section
variable {P : Program} {w : World} {K : PySem.W.Frag} {mg : Str → Option Value} {base : Heap}
local macro_rules | `(tactic| walk_at "un") => `(tactic| dsimp only [tSeq, tIfS, tRet, tAsg, tDrop, tOr, tAnd, tNot, tAndV, tOrV, tNotV, tTest, tB, tOp, tUn, tCB, tCons, tNil, tC, tNext, tIf, tChain, gName, tPar, tPar3, tTup, tLst])
theorem HillOk.nn0 {h : Hill} (k : HillOk h) : ∀ m ∈ h.needs, 0 ≤ m := fun m hm => by have := k.n0 m hm; omega
theorem need_dat {h : Hill} {i : Nat} (hi : i < h.needs.length) : (h.needs.map PyData.int)[i]? = some (.int (h.need i)) := by
  unfold Hill.need
  rw [List.getElem?_map, List.getElem?_eq_getElem hi]
  rfl
theorem need_bd {h : Hill} (hk : HillOk h) {i : Nat} (hi : i < h.needs.length) : 1 ≤ h.need i ∧ h.need i ≤ 10 ^ 14 := by
  unfold Hill.need
  rw [List.getElem?_eq_getElem hi]
  exact hk.n0 _ (List.getElem_mem hi)
def lineAt (h : Hill) (s : Now) : Int := h.given s.day - s.pot
def spNext (K : PySem.W.Frag) : Sp := fun vs H Q _ => ∃ (t : Bool) (h : Hill) (v : V) (n : Nat), vs = [v, .int n] ∧ Dp K H v (h.dat t) ∧ HillOk h ∧ 1 ≤ n ∧ ∀ (m : Nat) H', h.DayOf n m → Ex [] H H' → Q (.int (h.given m)) H'
theorem ok_given_next (T : Txt K mg) : FnOk P w K mg base CX0 3 T.a_given_next T.d_given_next P_given_next (spNext K) := by
  have nd := sc_given_next.nd
  have G_given_by := ok_given_by (P := P) (w := w) (base := base) T
  have G_day_of := ok_day_of (P := P) (w := w) (base := base) T
  refine T.F_given_next.ok sc_given_next (fun vs H Q E h => ?_) (fun cdv A outer s H vs Q E hr h => ?_)
  · obtain ⟨t, h, v, n, rfl, _⟩ := h
    rfl
  · obtain ⟨t, h, v, n, rfl, hD, hk, hn, q⟩ := h
    have hr_given_by := hr
    have hr_day_of := hr
    refine ⟨_, (pss_one (ps_ret (pe_call G_given_by hr_given_by (by rfl) T.m_given_by T.k_given_by T.b_given_by .nil pass0 (pa_cons (pv 0) (pa_cons (pe_call G_day_of hr_day_of (by rfl) T.m_day_of T.k_day_of T.b_day_of .nil pass0 (pa_cons (pv 0) (pa_cons (pv 1) pa_nil))) pa_nil))))), ?_⟩
    walk_at "un"
    refine ⟨_, rfl, _, rfl, _, rfl, t, h, v, n, rfl, hD, hk, hn, fun m H1 hm x1 => ?_⟩
    exact ⟨t, h, v, m, rfl, dp_le x1.le0 _ _ hD, hk, fun r H2 er x2 => by subst er; exact q m H2 hm (x1.trans x2)⟩
end
end Z28
set_option Elab.async false
set_option linter.all false
namespace Hz
open PySem PyProof.Rows
/-- whole numbers of some size and truths, in rows of twenty at most -/
def Plain : Nat → PyData → Prop
  | _, .int i => i.natAbs < 10 ^ 20
  | _, .bool _ => True
  | n + 1, .list ds => ds.length ≤ 20 ∧ ∀ d ∈ ds, Plain n d
  | n + 1, .tuple ds => ds.length ≤ 20 ∧ ∀ d ∈ ds, Plain n d
  | _, _ => False
structure PlainOk (n : Nat) (d : PyData) : Prop where
  sh : d.showable = true
  hd : d.hasDict = false
  dp : d.depth ≤ n
  lv : d.leavesShort 21 = true
  bk : d.bulk ≤ 21 ^ n - 1
theorem int_log {i : Int} (h : i.natAbs < 10 ^ 20) : i.natAbs.log2 < 1920 := by
  by_cases z : i.natAbs = 0
  · rw [z]; decide
  · rw [Nat.log2_lt z]
    exact Nat.lt_of_lt_of_le h (Nat.le_trans (show 10 ^ 20 ≤ 2 ^ 100 by decide) (Nat.pow_le_pow_right (by decide) (by decide)))
theorem plain_int (n : Nat) {i : Int} (h : i.natAbs < 10 ^ 20) : PlainOk n (.int i) := by
  refine ⟨?_, by simp only [PyData.hasDict], by simp [PyData.depth], ?_, by simp [PyData.bulk]⟩
  · simp only [PyData.showable, decide_eq_true_eq]
    exact int_log h
  · simp only [PyData.leavesShort, decide_eq_true_eq]
    have := int_text_length_le10 (k := 20) (by decide) h
    show (Str.ofString (toString i)).length ≤ 21
    rw [PySem.ofString_length]
    exact this
theorem plain_all {n : Nat} : ∀ {ds : List PyData}, (∀ d ∈ ds, PlainOk n d) → PyData.showableAll ds = true ∧ PyData.hasDictAll ds = false ∧ PyData.depthAll ds ≤ n ∧ PyData.leavesShortAll 21 ds = true ∧ PyData.bulkAll ds ≤ ds.length * 21 ^ n
  | [], _ => ⟨by simp [PyData.showableAll], by simp [PyData.hasDictAll], by simp [PyData.depthAll], by simp [PyData.leavesShortAll], by simp [PyData.bulkAll]⟩
  | d :: ds, h => by
    obtain ⟨a1, a2, a3, a4, a5⟩ := h d (by simp)
    obtain ⟨b1, b2, b3, b4, b5⟩ := plain_all fun d hd => h d (List.mem_cons_of_mem _ hd)
    have hp : 1 ≤ 21 ^ n := Nat.one_le_pow _ _ (by decide)
    refine ⟨by simp [PyData.showableAll, a1, b1], by simp [PyData.hasDictAll, a2, b2], ?_, by simp [PyData.leavesShortAll, a4, b4], ?_⟩
    · simp only [PyData.depthAll]; omega
    · simp only [PyData.bulkAll, List.length_cons]
      rw [Nat.add_mul, Nat.one_mul]
      omega
theorem plain_ok : ∀ {n : Nat} {d : PyData}, Plain n d → PlainOk n d := by
  intro n
  induction n with
  | zero =>
    intro d h
    cases d with
    | int i => exact plain_int 0 h
    | bool b => exact ⟨by simp [PyData.showable], by simp [PyData.hasDict], by simp [PyData.depth], by simp [PyData.leavesShort], by simp [PyData.bulk]⟩
    | none => exact absurd h (by simp [Plain])
    | str _ => exact absurd h (by simp [Plain])
    | list _ => exact absurd h (by simp [Plain])
    | tuple _ => exact absurd h (by simp [Plain])
    | dict _ => exact absurd h (by simp [Plain])
  | succ n ih =>
    intro d h
    have seq : ∀ ds : List PyData, ds.length ≤ 20 → (∀ d ∈ ds, Plain n d) → PyData.showableAll ds = true ∧ PyData.hasDictAll ds = false ∧ PyData.depthAll ds ≤ n ∧ PyData.leavesShortAll 21 ds = true ∧ PyData.bulkAll ds ≤ 21 ^ (n + 1) - 1 := fun ds hl hd => by
      obtain ⟨a, b, c, d, e⟩ := plain_all fun d h => ih (hd d h)
      refine ⟨a, b, c, d, ?_⟩
      have hp : 1 ≤ 21 ^ n := Nat.one_le_pow _ _ (by decide)
      have : ds.length * 21 ^ n ≤ 20 * 21 ^ n := Nat.mul_le_mul_right _ hl
      rw [Nat.pow_succ]
      omega
    cases d with
    | int i => exact plain_int _ h
    | bool b => exact ⟨by simp [PyData.showable], by simp [PyData.hasDict], by simp [PyData.depth], by simp [PyData.leavesShort], by simp [PyData.bulk]⟩
    | none => exact absurd h (by simp [Plain])
    | str _ => exact absurd h (by simp [Plain])
    | list ds =>
      obtain ⟨a, b, c, d, e⟩ := seq ds h.1 h.2
      exact ⟨by simp [PyData.showable, a], by simp [PyData.hasDict, b], by simp only [PyData.depth]; omega, by simp [PyData.leavesShort, d], by simp only [PyData.bulk]; exact e⟩
    | tuple ds =>
      obtain ⟨a, b, c, d, e⟩ := seq ds h.1 h.2
      exact ⟨by simp [PyData.showable, a], by simp [PyData.hasDict, b], by simp only [PyData.depth]; omega, by simp [PyData.leavesShort, d], by simp only [PyData.bulk]; exact e⟩
    | dict _ => exact absurd h (by simp [Plain])
/-- repr of such data -/
theorem repr_plain {K : PySem.W.Frag} {a : Addr} {d : PyData} {H : L2.Hp} {Q : L2.VK} (hd : L2.Dp K H (.ref a) d) (h : Plain 4 d) (q : Q (.str d.shown) H) : rRepr K [.ref a] H Q := by
  obtain ⟨h1, h2, h3, h4, h5⟩ := plain_ok h
  refine ⟨.ref a, d, rfl, hd, h1, h2, by omega, ?_, ⟨a, rfl⟩, q⟩
  have := PyData.shown_le_bulk 21 (by decide) d h4
  have e : sizeLine = 16777216 := by decide
  have e2 : 21 ^ 4 - 1 = 194480 := by decide
  omega
end Hz
set_option Elab.async false
set_option linter.all false
set_option maxRecDepth 100000
set_option maxHeartbeats 2000000
namespace Hz
open PySem PySem.Spec PyProof.Rows L2
/-! ### truths among numbers; texts of scalars -/
def b01 (b : Bool) : Int := if b = true then 1 else 0
section
variable {X : Cx}
/-- str of a number or a truth -/
theorem strX : CallR X (.type "str") (fun xs H Q => (∃ i, xs = [.int i] ∧ i.natAbs.log2 < 1920 ∧ Q (.str (toString i)) H) ∨ ∃ b : Bool, xs = [.bl b] ∧ Q (.str (if b = true then "True" else "False")) H) := by
  intro pins s σ H xs us Q J r h
  rcases h with ⟨i, rfl, hz, q⟩ | ⟨b, rfl, q⟩
  · obtain ⟨u, rfl, t, rfl⟩ := vals1 r
    exact PySem.P.str_of_int hz ⟨.str _, H, J.tok _, ⟨_, rfl⟩, q⟩
  · obtain ⟨u, rfl, e⟩ := Vals.one r
    cases e
    exact PySem.P.str_of_bool ⟨.str _, H, J.tok _, ⟨_, rfl⟩, q⟩
/-- what an int or a truth counts -/
def cnt : V → Option Int
  | .int i => some i
  | .bl b => some (b01 b)
  | _ => none
theorem addX : OpR X (binaryOp .Add) (fun x y H Q => ∃ i j, cnt x = some i ∧ y = .int j ∧ Q (.int (i + j)) H) := by
  intro pins s σ H x y v u Q J rx ry h
  obtain ⟨i, j, e, rfl, q⟩ := h
  obtain ⟨t, rfl⟩ := ry
  cases x with
  | int k =>
    cases e
    exact op_add pins s σ H (.int i) (.int j) v (.int j t) Q J rx (show RelV (.int j) (.int j t) from ⟨t, rfl⟩) ⟨_, _, rfl, rfl, q⟩
  | bl b =>
    cases e
    cases rx
    exact PySem.IntBool.add_bool_int ⟨.int _, H, J.tok _, ⟨_, rfl⟩, q⟩
  | _ => cases e
theorem subX : OpR X (binaryOp .Sub) (fun x y H Q => ∃ i j, x = .int i ∧ cnt y = some j ∧ Q (.int (i - j)) H) := by
  intro pins s σ H x y v u Q J rx ry h
  obtain ⟨i, j, rfl, e, q⟩ := h
  obtain ⟨t, rfl⟩ := rx
  cases y with
  | int k =>
    cases e
    exact op_sub pins s σ H (.int i) (.int j) (.int i t) u Q J (show RelV (.int i) (.int i t) from ⟨t, rfl⟩) ry ⟨_, _, rfl, rfl, q⟩
  | bl b =>
    cases e
    cases ry
    exact PySem.IntBool.sub_int_bool ⟨.int _, H, J.tok _, ⟨_, rfl⟩, q⟩
  | _ => cases e
/-- repr of data of any kind -/
def rReprX (K : PySem.W.Frag) : List V → Hp → VK → Prop := fun xs H Q => ∃ (x : V) (d : PyData), xs = [x] ∧ Dp K H x d ∧ d.showable = true ∧ d.hasDict = false ∧ d.depth ≤ 20 ∧ d.shown.length ≤ sizeLine ∧ Q (.str d.shown) H
theorem reprX (K : PySem.W.Frag) (units : X.A.units + 64 < cLine) (gd : X.A.guards = some []) (h : X.K = K := by rfl) : CallR X (.builtin "repr") (rReprX K) := by
  intro pins s σ H xs us Q J r hh
  obtain ⟨x, d, ex, hd, h1, h2, h3, h4, q⟩ := hh
  by_cases c : ∃ a, x = .ref a
  · exact reprK K units gd h pins s σ H xs us Q J r ⟨x, d, ex, hd, h1, h2, h3, h4, c, q⟩
  · subst ex
    obtain ⟨u, rfl, e⟩ := Vals.one r
    cases hd with
    | non =>
      cases e
      exact PySem.P.repr_of_none ⟨.str _, H, J.tok _, ⟨_, rfl⟩, q⟩
    | bl b =>
      cases e
      exact PySem.P.repr_of_bool ⟨.str _, H, J.tok _, ⟨_, rfl⟩, q⟩
    | int i =>
      obtain ⟨t, rfl⟩ := e
      exact PySem.P.repr_of_int (of_decide_eq_true h1) ⟨.str _, H, J.tok _, ⟨_, rfl⟩, q⟩
    | str z =>
      obtain ⟨t, rfl⟩ := e
      exact PySem.P.repr_of_str ⟨.str _, H, J.tok _, ⟨_, rfl⟩, q⟩ h4
    | _ => exact absurd ⟨_, rfl⟩ c
end
end Hz
set_option Elab.async false
set_option linter.all false
set_option maxRecDepth 100000
set_option maxHeartbeats 2000000
namespace Hz
open PySem PyProof.Rows
mutual
/-- no whole number in it beyond M -/
def iLe (M : Nat) : PyData → Bool
  | .int i => decide (i.natAbs ≤ M)
  | .list ds => iLeAll M ds
  | .tuple ds => iLeAll M ds
  | .none => true
  | .bool _ => true
  | .str _ => true
  | .dict _ => false
def iLeAll (M : Nat) : List PyData → Bool
  | [] => true
  | d :: ds => iLe M d && iLeAll M ds
end
mutual
theorem iLe_show {M : Nat} (hM : M < 10 ^ 20) : ∀ d : PyData, iLe M d = true → d.showable = true ∧ d.intsShort 21 = true
  | .int i, h => by
    have h' : i.natAbs < 10 ^ 20 := Nat.lt_of_le_of_lt (by simpa [iLe] using h) hM
    refine ⟨by simpa [PyData.showable] using int_log h', ?_⟩
    simp only [PyData.intsShort, decide_eq_true_eq]
    show (Str.ofString (toString i)).length ≤ 21
    rw [PySem.ofString_length]
    exact int_text_length_le10 (k := 20) (by decide) h'
  | .bool _, _ => by simp [PyData.showable, PyData.intsShort]
  | .none, _ => by simp [PyData.showable, PyData.intsShort]
  | .str _, _ => by simp [PyData.showable, PyData.intsShort]
  | .list ds, h => by
    obtain ⟨a, b⟩ := iLeAll_show hM ds (by simpa [iLe] using h)
    exact ⟨by simpa [PyData.showable] using a, by simpa [PyData.intsShort] using b⟩
  | .tuple ds, h => by
    obtain ⟨a, b⟩ := iLeAll_show hM ds (by simpa [iLe] using h)
    exact ⟨by simpa [PyData.showable] using a, by simpa [PyData.intsShort] using b⟩
  | .dict _, h => by simp [iLe] at h
theorem iLeAll_show {M : Nat} (hM : M < 10 ^ 20) : ∀ ds : List PyData, iLeAll M ds = true → PyData.showableAll ds = true ∧ PyData.intsShortAll 21 ds = true
  | [], _ => by simp [PyData.showableAll, PyData.intsShortAll]
  | d :: ds, h => by
    have h' : iLe M d = true ∧ iLeAll M ds = true := by simpa [iLeAll] using h
    obtain ⟨a, b⟩ := iLe_show hM d h'.1
    obtain ⟨c, e⟩ := iLeAll_show hM ds h'.2
    exact ⟨by simp [PyData.showableAll, a, c], by simp [PyData.intsShortAll, b, e]⟩
end
/-- data that repr shows and that == takes, whatever its shape: numbers of some size, so deep, so much in all -/
structure Tame (M W D : Nat) (d : PyData) : Prop where
  lay : d.canLay0 = true
  il : iLe M d = true
  dp : d.depth ≤ D
  bk : d.bulk ≤ W
/-- all but the sum -/
def Tame0 (M D : Nat) (d : PyData) : Prop := d.canLay0 = true ∧ iLe M d = true ∧ d.depth ≤ D
theorem Tame.zero {M W D : Nat} {d : PyData} (h : Tame M W D d) : Tame0 M D d := ⟨h.lay, h.il, h.dp⟩
def sumB (ds : List PyData) : Nat := (ds.map fun d => d.bulk + 1).sum
theorem sumB_cons (d : PyData) (ds : List PyData) : sumB (d :: ds) = d.bulk + 1 + sumB ds := by simp [sumB]
theorem sumB_append (a b : List PyData) : sumB (a ++ b) = sumB a + sumB b := by simp [sumB]
theorem sumB_reverse (a : List PyData) : sumB a.reverse = sumB a := by simp [sumB, List.sum_reverse]
theorem bulkAll_eq : ∀ ds : List PyData, PyData.bulkAll ds = sumB ds
  | [] => by simp [PyData.bulkAll, sumB]
  | d :: ds => by
    rw [sumB_cons, ← bulkAll_eq ds]
    simp only [PyData.bulkAll]
mutual
theorem iLe_up {M M' : Nat} (hM : M ≤ M') : ∀ d : PyData, iLe M d = true → iLe M' d = true
  | .int i, h => by
    have : i.natAbs ≤ M := by simpa [iLe] using h
    simpa [iLe] using Nat.le_trans this hM
  | .bool _, _ => by simp [iLe]
  | .none, _ => by simp [iLe]
  | .str _, _ => by simp [iLe]
  | .list ds, h => by simpa [iLe] using iLeAll_up hM ds (by simpa [iLe] using h)
  | .tuple ds, h => by simpa [iLe] using iLeAll_up hM ds (by simpa [iLe] using h)
  | .dict _, h => by simp [iLe] at h
theorem iLeAll_up {M M' : Nat} (hM : M ≤ M') : ∀ ds : List PyData, iLeAll M ds = true → iLeAll M' ds = true
  | [], _ => by simp [iLeAll]
  | d :: ds, h => by
    have h' : iLe M d = true ∧ iLeAll M ds = true := by simpa [iLeAll] using h
    simp [iLeAll, iLe_up hM d h'.1, iLeAll_up hM ds h'.2]
end
theorem Tame.mono {M M' W D W' D' : Nat} {d : PyData} (h : Tame M W D d) (c : M ≤ M') (a : W ≤ W') (b : D ≤ D') : Tame M' W' D' d := ⟨h.lay, iLe_up c d h.il, Nat.le_trans h.dp b, Nat.le_trans h.bk a⟩
theorem Tame0.mono {M M' D D' : Nat} {d : PyData} (h : Tame0 M D d) (c : M ≤ M') (b : D ≤ D') : Tame0 M' D' d := ⟨h.1, iLe_up c d h.2.1, Nat.le_trans h.2.2 b⟩
theorem tame_all {M D : Nat} : ∀ {ds : List PyData}, (∀ d ∈ ds, Tame0 M D d) → PyData.canLayAll0 ds = true ∧ iLeAll M ds = true ∧ PyData.depthAll ds ≤ D
  | [], _ => ⟨by simp [PyData.canLayAll0], by simp [iLeAll], by simp [PyData.depthAll]⟩
  | d :: ds, h => by
    obtain ⟨a1, a2, a4⟩ := h d (by simp)
    obtain ⟨b1, b2, b4⟩ := tame_all fun e he => h e (List.mem_cons_of_mem _ he)
    refine ⟨by simp [PyData.canLayAll0, a1, b1], by simp [iLeAll, a2, b2], ?_⟩
    simp only [PyData.depthAll]
    omega
theorem tame_none {M : Nat} : ∀ {D : Nat} {ds : List PyData}, PyData.canLayAll0 ds = true → iLeAll M ds = true → PyData.depthAll ds ≤ D → ∀ d ∈ ds, Tame0 M D d
  | D, d :: ds, h1, h2, h4, e, he => by
    simp only [PyData.canLayAll0, iLeAll, PyData.depthAll, Bool.and_eq_true] at h1 h2 h4
    rcases List.mem_cons.mp he with rfl | he
    · exact ⟨h1.1, h2.1, by omega⟩
    · exact tame_none h1.2 h2.2 (by omega) e he
theorem tame_seq {t : Bool} {M W D : Nat} {ds : List PyData} (h : ∀ d ∈ ds, Tame0 M D d) (hb : sumB ds ≤ W) : Tame M W (D + 1) (sq t ds) := by
  obtain ⟨a, b, d⟩ := tame_all h
  rw [← bulkAll_eq] at hb
  cases t
  · exact ⟨by show PyData.canLay0 (.list ds) = true; simpa [PyData.canLay0] using a, by show iLe M (.list ds) = true; simpa [iLe] using b, by show PyData.depth (.list ds) ≤ _; simp only [PyData.depth]; omega, by show PyData.bulk (.list ds) ≤ _; simp only [PyData.bulk]; exact hb⟩
  · exact ⟨by show PyData.canLay0 (.tuple ds) = true; simpa [PyData.canLay0] using a, by show iLe M (.tuple ds) = true; simpa [iLe] using b, by show PyData.depth (.tuple ds) ≤ _; simp only [PyData.depth]; omega, by show PyData.bulk (.tuple ds) ≤ _; simp only [PyData.bulk]; exact hb⟩
theorem tame_parts {t : Bool} {M W D : Nat} {ds : List PyData} (h : Tame M W (D + 1) (sq t ds)) : (∀ d ∈ ds, Tame0 M D d) ∧ sumB ds ≤ W := by
  obtain ⟨a, b, d, e⟩ := h
  rw [← bulkAll_eq]
  cases t
  · change PyData.canLay0 (.list ds) = true at a
    change iLe M (.list ds) = true at b
    change PyData.depth (.list ds) ≤ _ at d
    change PyData.bulk (.list ds) ≤ _ at e
    simp only [PyData.canLay0, iLe, PyData.depth, PyData.bulk] at a b d e
    exact ⟨tame_none a b (by omega), e⟩
  · change PyData.canLay0 (.tuple ds) = true at a
    change iLe M (.tuple ds) = true at b
    change PyData.depth (.tuple ds) ≤ _ at d
    change PyData.bulk (.tuple ds) ≤ _ at e
    simp only [PyData.canLay0, iLe, PyData.depth, PyData.bulk] at a b d e
    exact ⟨tame_none a b (by omega), e⟩
theorem Tame.shaped {M W D : Nat} {d : PyData} (h : Tame M W D d) (hD : D ≤ 20) : SeqAt.shaped d = true := by
  unfold SeqAt.shaped
  rw [h.lay, decide_eq_true (by have := h.dp; omega)]
  rfl
theorem Tame.repr {K : PySem.W.Frag} {M W D : Nat} {d : PyData} {x : L2.V} {H : L2.Hp} {Q : L2.VK} (h : Tame M W D d) (hM : M < 10 ^ 20) (hW : W ≤ 100000) (hD : D ≤ 20) (hd : L2.Dp K H x d) (q : Q (.str d.shown) H) : rReprX K [x] H Q := by
  obtain ⟨h1, h2⟩ := iLe_show hM d h.il
  refine ⟨x, d, rfl, hd, h1, PyData.hasDict_of_canLay d h.lay, by have := h.dp; omega, ?_, q⟩
  have := PyData.shown_le_bulk 21 (by decide) d (PyData.leavesShort_of_canLay0 21 d h.lay h2)
  have e : sizeLine = 16777216 := by decide
  have := h.bk
  omega
theorem sumB_len (ds : List PyData) : ds.length ≤ sumB ds := by
  induction ds with
  | nil => simp
  | cons d ds ih =>
    rw [List.length_cons, sumB_cons]
    omega
theorem Tame.dpt : ∀ {D M W : Nat} {d : PyData}, Tame M W D d → W ≤ 1000 → Hz.dpt D d
  | 0, M, W, d, h, hW => by
    cases d with
    | list ds => have := h.dp; simp [PyData.depth] at this
    | tuple ds => have := h.dp; simp [PyData.depth] at this
    | dict _ => have := h.il; simp [iLe] at this
    | _ => trivial
  | D + 1, M, W, d, h, hW => by
    have key : ∀ (t : Bool) (ds : List PyData), Tame M W (D + 1) (sq t ds) → ds.length ≤ 1000 ∧ ∀ e ∈ ds, Hz.dpt D e := fun t ds h => by
      obtain ⟨a, b⟩ := tame_parts h
      refine ⟨by have := sumB_len ds; omega, fun e he => ?_⟩
      obtain ⟨x, y, z⟩ := a e he
      obtain ⟨p, q, rfl⟩ := List.append_of_mem he
      rw [sumB_append, sumB_cons] at b
      exact Tame.dpt (W := W) ⟨x, y, z, by omega⟩ hW
    cases d with
    | list ds => exact key false ds h
    | tuple ds => exact key true ds h
    | dict _ => have := h.il; simp [iLe] at this
    | _ => trivial
end Hz
set_option Elab.async false
set_option linter.all false
namespace Hz
namespace Hill
theorem dayOf_mono {h : Hill} {t t' : Int} {m m' : Nat} (x : h.DayOf t m) (y : h.DayOf t' m') (l : t ≤ t') : m ≤ m' := by
  refine Nat.not_lt.mp fun c => ?_
  have := x.2.2 m' c y.1
  have := y.2.1
  omega
/-- by as many years as are wanted -/
theorem Lost.far {h : Hill} (hL : 0 < h.L) (hN : h.Nn) {y z : Int} (x : h.Lost y z) : ∃ k0 : Int, ∀ k : Int, k0 ≤ k → ∃ m, 1 ≤ y + k * h.drops ∧ h.DayOf (y + k * h.drops) m ∧ z = max 0 (h.given m - h.most - (y + k * h.drops)) := by
  obtain ⟨k0, m0, p, d, e⟩ := x
  refine ⟨k0, fun k hk => ?_⟩
  obtain ⟨j, hj⟩ := Int.eq_ofNat_of_zero_le (show 0 ≤ k - k0 by omega)
  have d' := dayOf_year hL hN d p j
  have hdn : 0 ≤ h.drops := by
    have := ge_mono hN hL (Nat.zero_le h.L)
    have e := ge_year hL 0 1 (h := h)
    rw [Nat.one_mul, Nat.zero_add, ge_zero] at e
    rw [ge_zero] at this
    omega
  have e2 : y + k0 * h.drops + j * h.drops = y + k * h.drops := by
    have : k = k0 + j := by omega
    rw [this, Int.add_mul]; omega
  have j0 : 0 ≤ (j : Int) * h.drops := Int.mul_nonneg (by omega) hdn
  rw [e2] at d'
  refine ⟨_, by omega, d', ?_⟩
  rw [given_year hL, ← e2, e]
  congr 1
  omega
/-- lines keep their order -/
theorem lost_mono {h : Hill} (hL : 0 < h.L) (hN : h.Nn) {x y a b : Int} (p : h.Lost x a) (q : h.Lost y b) (l : x ≤ y) : x + a ≤ y + b := by
  obtain ⟨k1, f1⟩ := p.far hL hN
  obtain ⟨k2, f2⟩ := q.far hL hN
  obtain ⟨m, _, d, ea⟩ := f1 (max k1 k2) (by omega)
  obtain ⟨m', _, d', eb⟩ := f2 (max k1 k2) (by omega)
  have := given_mono hN hL (dayOf_mono d d' (by omega))
  omega
theorem lost_lt {h : Hill} (hL : 0 < h.L) (hN : h.Nn) (hd : 0 < h.drops) (hm : 0 ≤ h.most) {x a : Int} (p : h.Lost x a) : a < h.drops := by
  obtain ⟨k, m, p1, d, rfl⟩ := p
  have d' := dayOf_year hL hN d p1 1
  have hlt : m < m + 1 * h.L := by omega
  have := d'.2.2 m hlt d.1
  have e : ((1 : Nat) : Int) * h.drops = h.drops := Int.one_mul _
  omega
noncomputable def lostZ (h : Hill) (y : Int) : Int := Classical.epsilon fun z => h.Lost y z
theorem Lost.z {h : Hill} (hL : 0 < h.L) (hN : h.Nn) {y z : Int} (p : h.Lost y z) : z = h.lostZ y := lost_uniq hL hN p (Classical.epsilon_spec (p := fun z => h.Lost y z) ⟨z, p⟩)
theorem lostZ_spec {h : Hill} (hL : 0 < h.L) (hN : h.Nn) (ho : ∃ d, d ∈ h.year ∧ d.2 = true) (hd : 0 < h.drops) (y : Int) : h.Lost y (h.lostZ y) := Classical.epsilon_spec (p := fun z => h.Lost y z) (lost_ex hL hN ho hd y)
/-- the line behind a turn -/
noncomputable def ledZ (h : Hill) (i : Nat) (x : Int) : Int := x + h.need i + h.lostZ (x + h.need i)
end Hill
end Hz
set_option Elab.async false
set_option linter.all false
namespace Hz
namespace Hill
/-- the begins of the stretches, rising -/
structure Lows (h : Hill) (l : List Int) : Prop where
  up : l.Pairwise (· < ·)
  mem : ∀ x, x ∈ l ↔ (0 ≤ x ∧ x < h.drops ∧ 0 < h.lostZ x ∧ ∃ d, h.isOpen d = true ∧ x = (h.given d + 1) % h.drops)
theorem rising_uniq : ∀ {l l' : List Int}, l.Pairwise (· < ·) → l'.Pairwise (· < ·) → (∀ x, x ∈ l ↔ x ∈ l') → l = l'
  | [], [], _, _, _ => rfl
  | [], a :: l', _, _, e => absurd ((e a).mpr (by simp)) (by simp)
  | a :: l, [], _, _, e => absurd ((e a).mp (by simp)) (by simp)
  | a :: l, b :: l', p, q, e => by
    obtain ⟨p1, p2⟩ := List.pairwise_cons.mp p
    obtain ⟨q1, q2⟩ := List.pairwise_cons.mp q
    have ab : a = b := by
      rcases List.mem_cons.mp ((e a).mp (by simp)) with h | h
      · exact h
      · rcases List.mem_cons.mp ((e b).mpr (by simp)) with h' | h'
        · exact h'.symm
        · have := q1 a h
          have := p1 b h'
          omega
    subst ab
    congr 1
    refine rising_uniq p2 q2 fun x => ⟨fun hx => ?_, fun hx => ?_⟩
    · rcases List.mem_cons.mp ((e x).mp (List.mem_cons_of_mem _ hx)) with h | h
      · have := p1 x hx; omega
      · exact h
    · rcases List.mem_cons.mp ((e x).mpr (List.mem_cons_of_mem _ hx)) with h | h
      · have := q1 x hx; omega
      · exact h
theorem Lows.uniq {h : Hill} {l l' : List Int} (a : h.Lows l) (b : h.Lows l') : l = l' := rising_uniq a.up b.up fun x => (a.mem x).trans (b.mem x).symm
section
variable {h : Hill} (hL : 0 < h.L) (hN : h.Nn) (ho : ∃ d, d ∈ h.year ∧ d.2 = true) (hd : 0 < h.drops)
include hL hN ho hd
theorem lostZ_year (y k : Int) : h.lostZ (y + k * h.drops) = h.lostZ y := ((lostZ_spec hL hN ho hd y).year k |>.z hL hN).symm
theorem lostZ_mod (y : Int) : h.lostZ (y % h.drops) = h.lostZ y := by
  have e := Int.mul_ediv_add_emod y h.drops
  have := lostZ_year hL hN ho hd (y % h.drops) (y / h.drops)
  rw [show y % h.drops + y / h.drops * h.drops = y by rw [Int.mul_comm]; omega] at this
  exact this.symm
/-- a number at which something is lost: just behind an open evening, or by that so much less -/
theorem lost_low {y : Int} (y1 : 1 ≤ y) (p : 0 < h.lostZ y) : ∃ (d : Nat) (k : Int), h.isOpen d = true ∧ h.given d + 1 - k * h.drops ≤ y ∧ h.lostZ y = h.lostZ (h.given d + 1) - (y - (h.given d + 1 - k * h.drops)) := by
  -- a year on, that an open evening stand ahead
  have sp := lostZ_spec hL hN ho hd y
  have e1 := (lostZ_year hL hN ho hd y 1)
  rw [Int.one_mul] at e1
  obtain ⟨m, hm⟩ := dayOf_ex hN hL ho hd (y + h.drops)
  have lm := lost_of (show 1 ≤ y + h.drops by omega) hm
  have ez := lm.z hL hN
  rw [e1] at ez
  -- the last open day ahead of m
  obtain ⟨j0, hj0, hj1⟩ := openFrom_ex hL ho 0
  have ja : h.given j0 < y + h.drops := by
    have := given_mono hN hL (show j0 ≤ h.L - 1 by omega)
    have e := ge_year hL 0 1 (h := h)
    rw [Nat.one_mul, Nat.zero_add, ge_zero] at e
    have e2 : h.given (h.L - 1) = h.ge h.L := by unfold given; congr 1; omega
    have e3 : ((1 : Nat) : Int) * h.drops = h.drops := Int.one_mul _
    omega
  have jm : j0 < m := by
    refine Nat.not_le.mp fun c => ?_
    have := given_mono hN hL c
    have := hm.2.1
    omega
  obtain ⟨d, d1, d2, d3⟩ : ∃ d, d < m ∧ h.isOpen d = true ∧ ∀ k, d < k → k < m → h.isOpen k = false := by
    have : ∀ n, n ≤ m → (∃ k, k < n ∧ h.isOpen k = true) → ∃ d, d < n ∧ h.isOpen d = true ∧ ∀ k, d < k → k < n → h.isOpen k = false := by
      intro n
      induction n with
      | zero => rintro _ ⟨k, hk, _⟩; omega
      | succ n ih =>
        rintro hn ⟨k, hk, ok⟩
        cases c : h.isOpen n with
        | true => exact ⟨n, by omega, c, fun j h1 h2 => by omega⟩
        | false =>
          have kn : k < n := by
            rcases Nat.lt_or_eq_of_le (Nat.lt_succ_iff.mp hk) with z | z
            · exact z
            · rw [z, c] at ok; cases ok
          obtain ⟨d, a, b, e⟩ := ih (by omega) ⟨k, kn, ok⟩
          refine ⟨d, by omega, b, fun j h1 h2 => ?_⟩
          by_cases z : j = n
          · rw [z]; exact c
          · exact e j h1 (by omega)
    exact this m (Nat.le_refl _) ⟨j0, jm, hj0.2.1⟩
  have gd := hm.2.2 d d1 d2
  have g0 : 0 ≤ h.given d := by
    have := ge_mono hN hL (Nat.zero_le (d + 1))
    rw [ge_zero] at this
    exact this
  have hm2 : h.DayOf (h.given d + 1) m := ⟨hm.1, by have := hm.2.1; omega, fun k hk ok => by
    rcases Nat.lt_or_ge d k with c | c
    · rw [d3 k c hk] at ok; cases ok
    · have := given_mono hN hL c; omega⟩
  have l2 := (lost_of (show 1 ≤ h.given d + 1 by omega) hm2).z hL hN
  refine ⟨d, 1, d2, by omega, ?_⟩
  rw [Int.one_mul]
  omega
variable (hm0 : 0 ≤ h.most)
include hm0
/-- behind an open evening: as much less as it's further -/
theorem lost_in {d : Nat} {f : Int} (od : h.isOpen d = true) (f0 : 0 ≤ f) (f1 : f < h.lostZ (h.given d + 1)) : h.lostZ (h.given d + 1 + f) = h.lostZ (h.given d + 1) - f := by
  have g0 : 0 ≤ h.given d := by
    have := ge_mono hN hL (Nat.zero_le (d + 1))
    rw [ge_zero] at this
    exact this
  obtain ⟨m, hm⟩ := dayOf_ex hN hL ho hd (h.given d + 1)
  have l1 := (lost_of (show 1 ≤ h.given d + 1 by omega) hm).z hL hN
  have hm2 : h.DayOf (h.given d + 1 + f) m := ⟨hm.1, by omega, fun k hk ok => by have := hm.2.2 k hk ok; omega⟩
  have l2 := (lost_of (show 1 ≤ h.given d + 1 + f by omega) hm2).z hL hN
  omega
/-- by a stretch: how far in, how much is lost -/
theorem Lows.within {l : List Int} (o : h.Lows l) {x y : Int} (hx : x ∈ l) (f : (y - x) % h.drops ≤ h.lostZ x - 1) : h.lostZ y = h.lostZ x - (y - x) % h.drops := by
  obtain ⟨x0, x1, x2, d, od, rfl⟩ := (o.mem x).mp hx
  have e0 := Int.emod_nonneg (y - (h.given d + 1) % h.drops) (show h.drops ≠ 0 by omega)
  have e := Int.mul_ediv_add_emod (y - (h.given d + 1) % h.drops) h.drops
  have e2 := Int.mul_ediv_add_emod (h.given d + 1) h.drops
  rw [Int.mul_comm] at e e2
  rw [lostZ_mod hL hN ho hd] at f ⊢
  have hin := lost_in hL hN ho hd hm0 od e0 (by omega)
  rw [← hin]
  have : y = h.given d + 1 + (y - (h.given d + 1) % h.drops) % h.drops + ((y - (h.given d + 1) % h.drops) / h.drops - (h.given d + 1) / h.drops) * h.drops := by
    rw [Int.sub_mul]; omega
  conv => lhs; rw [this]
  rw [lostZ_year hL hN ho hd]
/-- out of all stretches nothing is lost -/
theorem Lows.without {l : List Int} (o : h.Lows l) {y : Int} (no : ∀ x ∈ l, ¬ (y - x) % h.drops ≤ h.lostZ x - 1) : h.lostZ y = 0 := by
  have n0 := (lostZ_spec hL hN ho hd y).nn
  refine Int.le_antisymm (Int.not_lt.mp fun p => ?_) n0
  -- above nought
  have e := Int.mul_ediv_add_emod y h.drops
  have e0 := Int.emod_nonneg y (show h.drops ≠ 0 by omega)
  have ey := lostZ_year hL hN ho hd y (1 - y / h.drops)
  have en : y + (1 - y / h.drops) * h.drops = y % h.drops + h.drops := by
    rw [Int.sub_mul, Int.one_mul, Int.mul_comm (y / h.drops)]; omega
  rw [en] at ey
  obtain ⟨d, k, od, le, el⟩ := lost_low hL hN ho hd (show 1 ≤ y % h.drops + h.drops by omega) (by rw [ey]; exact p)
  have ll := lost_lt hL hN hd hm0 (lostZ_spec hL hN ho hd (h.given d + 1))
  have m0 := Int.emod_nonneg (h.given d + 1) (show h.drops ≠ 0 by omega)
  have m1 := Int.emod_lt_of_pos (h.given d + 1) hd
  have em := Int.mul_ediv_add_emod (h.given d + 1) h.drops
  refine no ((h.given d + 1) % h.drops) ((o.mem _).mpr ⟨m0, m1, by rw [lostZ_mod hL hN ho hd]; omega, d, od, rfl⟩) ?_
  rw [lostZ_mod hL hN ho hd]
  -- how far in
  have far : (y - (h.given d + 1) % h.drops) % h.drops = y % h.drops + h.drops - (h.given d + 1 - k * h.drops) := by
    have : y - (h.given d + 1) % h.drops = (y % h.drops + h.drops - (h.given d + 1 - k * h.drops)) + (y / h.drops - 1 - k + (h.given d + 1) / h.drops) * h.drops := by
      rw [Int.mul_comm] at e em
      rw [Int.add_mul, Int.sub_mul, Int.sub_mul, Int.one_mul]
      omega
    rw [this, Int.add_mul_emod_self_right]
    exact Int.emod_eq_of_lt (by omega) (by omega)
  rw [far]
  omega
end
end Hill
end Hz
set_option Elab.async false
set_option linter.all false
set_option maxRecDepth 100000
set_option maxHeartbeats 8000000
namespace Z28
open PySem PySem.Spec PyProof.Rows L2 Hz
section
variable {P : Program} {w : World} {K : PySem.W.Frag} {mg : Str → Option Value} {base : Heap}
local macro_rules | `(tactic| walk_at "un") => `(tactic| try dsimp only [tSeq, tIfS, tRet, tAsg, tDrop, tOr, tAnd, tNot, tAndV, tOrV, tNotV, tTest, tB, tOp, tUn, tCB, tCons, tNil, tC, tNext, tIf, tChain, gName, tPar, tPar3, tTup, tLst])
/-- a stretch, by its begin -/
noncomputable def stI (h : Hill) (x : Int) : List Int := [x, x + h.lostZ x - 1]
noncomputable def stD (h : Hill) (x : Int) : PyData := sq true [.int x, .int (x + h.lostZ x - 1)]
/-- the begins that the first days tell -/
noncomputable def begins (h : Hill) (n : Nat) : List Int := (List.range n).filterMap fun d => if h.isOpen d = true ∧ 0 < h.lostZ (h.given d + 1) then some ((h.given d + 1) % h.drops) else none
theorem begins_succ (h : Hill) (n : Nat) : begins h (n + 1) = begins h n ++ (if h.isOpen n = true ∧ 0 < h.lostZ (h.given n + 1) then [(h.given n + 1) % h.drops] else []) := by
  unfold begins
  rw [List.range_succ, List.filterMap_append]
  congr 1
  by_cases c : h.isOpen n = true ∧ 0 < h.lostZ (h.given n + 1)
  · simp [c]
  · rw [if_neg c, List.filterMap_cons, if_neg c, List.filterMap_nil]
theorem begins_mem {h : Hill} (hk : HillOk h) (x : Int) : x ∈ begins h h.L ↔ (0 ≤ x ∧ x < h.drops ∧ 0 < h.lostZ x ∧ ∃ d, h.isOpen d = true ∧ x = (h.given d + 1) % h.drops) := by
  have hd := hk.dr
  have e0 : ∀ y : Int, 0 ≤ y % h.drops := fun y => Int.emod_nonneg _ (by omega)
  have e1 : ∀ y : Int, y % h.drops < h.drops := fun y => Int.emod_lt_of_pos _ hd
  have em : ∀ y : Int, h.lostZ (y % h.drops) = h.lostZ y := Hill.lostZ_mod hk.L0 hk.nn hk.op hd
  unfold begins
  rw [List.mem_filterMap]
  constructor
  · rintro ⟨d, hdm, e⟩
    by_cases c : h.isOpen d = true ∧ 0 < h.lostZ (h.given d + 1)
    · rw [if_pos c] at e
      obtain rfl := Option.some.inj e
      exact ⟨e0 _, e1 _, by rw [em]; exact c.2, d, c.1, rfl⟩
    · rw [if_neg c] at e; cases e
  · rintro ⟨_, _, p, d, od, rfl⟩
    rw [em] at p
    have hm := Nat.mod_lt d hk.L0
    have ed : d = d % h.L + d / h.L * h.L := by rw [Nat.mul_comm]; exact (Nat.mod_add_div d h.L).symm
    have eo : h.isOpen (d % h.L) = true := by rw [ed, Hill.isOpen_year] at od; exact od
    have eg : h.given d + 1 = h.given (d % h.L) + 1 + ((d / h.L : Nat) : Int) * h.drops := by
      conv => lhs; rw [ed, Hill.given_year hk.L0]
      omega
    refine ⟨d % h.L, List.mem_range.mpr hm, ?_⟩
    have ep : 0 < h.lostZ (h.given (d % h.L) + 1) := by rw [eg, Hill.lostZ_year hk.L0 hk.nn hk.op hd] at p; exact p
    rw [if_pos ⟨eo, ep⟩, eg, Int.add_mul_emod_self_right]
theorem day_i {t : Bool} {h : Hill} {i : Nat} (hi : i < h.L) : (h.year.map fun d => sq t [.int d.1, .bool d.2])[i]? = some (sq t [.int (h.drop i), .bool (h.isOpen i)]) := by
  obtain ⟨d, hd, e1, e2⟩ := Hill.at_day (h := h) (by omega) i
  rw [Nat.mod_eq_of_lt hi] at hd
  rw [List.getElem?_map, hd, e1, e2]; rfl
def spStr (K : PySem.W.Frag) : Sp := fun vs H Q _ => ∃ (t : Bool) (h : Hill) (v : V), vs = [v] ∧ Dp K H v (h.dat t) ∧ HillOk h ∧
  ∀ (l : List Int) (us : List V) p H', h.Lows l → H p = none → H' p = some (.lst us) → (∀ B : List Addr, (∀ b ∈ B, H b ≠ none) → DpAll K (wo (p :: B) H') us (l.map (stD h))) → Ex [] H H' → Q (.ref p) H'
theorem ok_stretches (T : Txt K mg) : FnOk P w K mg base CX0 4 T.a_stretches T.d_stretches P_stretches (spStr K) := by
  have nd := sc_stretches.nd
  have G_year_drops := ok_year_drops (P := P) (w := w) (base := base) T
  have G_given_by := ok_given_by (P := P) (w := w) (base := base) T
  have G_given_next := ok_given_next (P := P) (w := w) (base := base) T
  refine T.F_stretches.ok sc_stretches (fun vs H Q E h => ?_) (fun cdv A outer s H vs Q E hr h => ?_)
  · obtain ⟨t, h, v, rfl, _⟩ := h
    rfl
  · obtain ⟨t, h, v, rfl, hD, hk, q⟩ := h
    have hr_year_drops := hr.mono (show 1 ≤ 3 by decide)
    have hr_given_by := hr.mono (show 2 ≤ 3 by decide)
    have hr_given_next := hr
    have hL0 := hk.L0
    have hd := hk.dr
    have hdm := hk.dm
    have hL2 : h.L ≤ 20 := hk.y2
    have hm0 := hk.m0
    refine ⟨_, (pss_cons (ps_par3 (i := 1) (j := 2) (l := 3) (by rfl) nd rfl rfl rfl (by decide) (by decide) (by decide) rfl rfl rfl (pa_cons (pe_ix (ixK K) (pv 0) pe_int (fun _ _ => rfl)) (pa_cons (pe_ix (ixK K) (pv 0) pe_int (fun _ _ => rfl)) (pa_cons (pe_call G_year_drops hr_year_drops (by rfl) T.m_year_drops T.k_year_drops T.b_year_drops .nil pass0 (pa_cons (pv 0) pa_nil)) pa_nil))) (by rfl))
      (pss_cons (ps_set (i := 4) nd rfl (Or.inl rfl) (pe_lst pa_nil))
      (pss_cons (ps_for PassesOwn.never rfl (pi_range1 (by rfl) T.z_range (pa_cons (pe_callB (lenK K) (by rfl) T.z_len (by decide +kernel) (pa_cons (pv 1) pa_nil)) pa_nil)) (pg_name (i := 5) nd rfl (Or.inl rfl)) (pss_one (ps_if (pt_val (pe_ix (ixK K) (pe_ix (ixK K) (pv 1) (pv 5) (fun _ _ => rfl)) pe_int (fun _ _ => rfl))) (pss_cons (ps_set (i := 6) nd rfl (Or.inl rfl) (pe_op op_add (pe_call G_given_by hr_given_by (by rfl) T.m_given_by T.k_given_by T.b_given_by .nil pass0 (pa_cons (pv 0) (pa_cons (pv 5) pa_nil))) pe_int))
      (pss_cons (ps_set (i := 7) nd rfl (Or.inl rfl) (pe_op op_sub (pe_op op_sub (pe_op op_sub (pe_call G_given_next hr_given_next (by rfl) T.m_given_next T.k_given_next T.b_given_next .nil pass0 (pa_cons (pv 0) (pa_cons (pv 6) pa_nil))) pe_int) (pv 2)) (pv 6)))
      (pss_one (ps_if (pt_cmpR op_ge (pv 7) pe_int (nomark _)) (pss_one (ps_expr (pe_bm PySem.F.plainAttrs_list PySem.F.slot_list_append PySem.F.type_list_append mt_append (pv 4) (pa_cons (pe_tup (pa_cons (pe_op op_mod (pv 6) (pv 3)) (pa_cons (pe_op op_add (pe_op op_mod (pv 6) (pv 3)) (pv 7)) pa_nil))) pa_nil)))) pss_nil)))) pss_nil)))
      (pss_one (ps_ret (pe_callB (cr_sortedT rfl) (by rfl) T.z_sorted (by decide +kernel) (pa_cons (pe_callTy (cr_setOfT rfl hr.units) (by rfl) T.z_set (by decide +kernel) (pa_cons (pv 4) pa_nil)) pa_nil))))))), ?_⟩
    have dv : ∀ {G : Hp}, Ex [] H G → Dp K G v (h.dat t) := fun x => dp_le x.le0 _ _ hD
    walk_at "un"
    refine ⟨_, rfl, z_ixD hD (Le.refl _) (j := 0) rfl rfl fun yv hy => ?_⟩
    have hy0 := hy
    obtain ⟨ya, ys, rfl, hyS, hyA⟩ := dp_sq hy
    have hL : ys.length = h.L := by have := dpa_len hyA; rw [List.length_map] at this; exact this
    refine ⟨_, rfl, z_ixD hD (Le.refl _) (j := 2) rfl rfl fun mv hm => ?_⟩
    obtain rfl := dp_int hm
    refine ⟨_, rfl, t, h, v, rfl, hD, hk, fun H1 x1 => ⟨_, _, _, rfl, ?_⟩⟩
    walk_at "un"
    refine ⟨Nat.zero_le _, fun L hL1 => ?_⟩
    have x2 := x1.trans (Ex.new (B := []) (o := .lst []) hL1)
    have L0 : H L = none := x1.free hL1
    walk_at "un"
    refine ⟨_, rfl, ya, ys, rfl, (le_x x2.le0 hyS).sq, _, rfl, by omega, by omega, ?_⟩
    rw [hL]
    refine for_range (lo := 0) (n := h.L) (fun i σ H' => ∃ (ks : List (Addr × List Int)) (u5 u6 u7 : Option V), σ = [some v, some (.ref ya), some (.int h.most), some (.int h.drops), some (.ref L), u5, u6, u7] ∧ H' L = some (.lst (ks.map fun p => V.ref p.1)) ∧ ks.map (·.2) = (begins h i).map (stI h) ∧ ks.length ≤ i ∧ (∀ p ∈ ks, H p.1 = none ∧ H' p.1 = some (.tup (p.2.map V.int))) ∧ Ex [] H H')
      ⟨[], _, _, _, rfl, upd_same, rfl, Nat.zero_le _, by simp, x2⟩ (fun i σ H' hi hP => ?_) (fun σ H' hP => ?_)
    · obtain ⟨ks, u5, u6, u7, rfl, hHL, hks, lks, hat, x3⟩ := hP
      have ei : (0 : Int) + (i : Int) = i := Int.zero_add _
      walk_at "un"
      have next : ∀ G : Hp, Ex [] H' G → ¬ (h.isOpen i = true ∧ 0 < h.lostZ (h.given i + 1)) → ∀ (w5 w6 w7 : Option V), ∃ (ks : List (Addr × List Int)) (u5 u6 u7 : Option V), [some v, some (.ref ya), some (.int h.most), some (.int h.drops), some (.ref L), w5, w6, w7] = [some v, some (.ref ya), some (.int h.most), some (.int h.drops), some (.ref L), u5, u6, u7] ∧ G L = some (.lst (ks.map fun p => V.ref p.1)) ∧ ks.map (·.2) = (begins h (i + 1)).map (stI h) ∧ ks.length ≤ i + 1 ∧ (∀ p ∈ ks, H p.1 = none ∧ G p.1 = some (.tup (p.2.map V.int))) ∧ Ex [] H G := fun G x c w5 w6 w7 =>
        ⟨ks, w5, w6, w7, rfl, x.1 _ _ (by simp) hHL, by rw [begins_succ, if_neg c, List.append_nil]; exact hks, by omega, fun p hp => ⟨(hat p hp).1, x.1 _ _ (by simp) (hat p hp).2⟩, x3.trans x⟩
      refine ⟨_, rfl, _, rfl, z_ixD (dp_le x3.le0 _ _ hy0) (Le.refl _) (j := i) ei (day_i hi) fun dv' hdv => z_ixD hdv (Le.refl _) (j := 1) rfl rfl fun bv hbv => ?_⟩
      obtain rfl := dp_bl hbv
      refine ⟨_, rfl, ?_⟩
      cases co : h.isOpen i with
      | false => exact iteF (next H' (Ex.refl _ _) (by rw [co]; simp) _ _ _)
      | true =>
      refine iteT ⟨_, rfl, _, rfl, t, h, v, i, by rw [ei]; rfl, dv x3, hk, fun r H4 er x4 => ?_⟩
      subst er
      refine ⟨_, _, rfl, rfl, ?_⟩
      walk_at "un"
      have g0 : 0 ≤ h.given i := by
        have := Hill.ge_mono hk.nn hL0 (Nat.zero_le (i + 1))
        rw [Hill.ge_zero] at this
        exact this
      obtain ⟨g, hg⟩ := Int.eq_ofNat_of_zero_le g0
      have eg : h.given i + 1 = ((g + 1 : Nat) : Int) := by omega
      refine ⟨_, rfl, _, rfl, t, h, v, g + 1, by rw [eg]; rfl, dv (x3.trans x4), hk, by omega, fun m H5 hm x5 => ?_⟩
      rw [← eg] at hm
      have x45 := x4.trans x5
      have lo := (Hill.lost_of (show 1 ≤ h.given i + 1 by omega) hm).z hL0 hk.nn
      have sp := Hill.lostZ_mod hL0 hk.nn hk.op hd (h.given i + 1)
      refine ⟨_, _, rfl, rfl, _, rfl, _, _, rfl, rfl, _, rfl, _, _, rfl, rfl, ?_⟩
      walk_at "un"
      refine ⟨_, rfl, _, _, rfl, rfl, _, rfl, ite2 (fun c => ?_) (fun c => ?_)⟩
      · have c' : 0 ≤ h.given m - 1 - h.most - (h.given i + 1) := of_decide_eq_true c
        have pos : h.isOpen i = true ∧ 0 < h.lostZ (h.given i + 1) := ⟨co, by omega⟩
        refine ⟨_, rfl, .inl ⟨rfl, _, SqL.of (x45.1 _ _ (by simp) hHL)⟩, _, rfl, _, rfl, _, _, rfl, rfl, hd, _, rfl, _, rfl, _, _, rfl, rfl, hd, _, rfl, _, _, rfl, rfl, (by show 2 ≤ sizeLine; decide), fun p hp => ?_⟩
        have y6 := Ex.new (B := []) (o := .tup [.int ((h.given i + 1) % h.drops), .int ((h.given i + 1) % h.drops + (h.given m - 1 - h.most - (h.given i + 1)))]) hp
        have x46 := x45.trans y6
        have np : p ≠ L := fun z => by rw [z, x45.1 _ _ (by simp) hHL] at hp; cases hp
        have p0 : H p = none := (x3.trans x45).free hp
        refine ⟨L, _, _, rfl, rfl, x46.1 _ _ (by simp) hHL, by rw [List.length_map]; exact sz_lt (by omega), ?_⟩
        have es : stI h ((h.given i + 1) % h.drops) = [(h.given i + 1) % h.drops, (h.given i + 1) % h.drops + (h.given m - 1 - h.most - (h.given i + 1))] := by
          unfold stI
          rw [sp]
          congr 2
          omega
        refine ⟨ks ++ [(p, stI h ((h.given i + 1) % h.drops))], _, _, _, rfl, by rw [upd_same, List.map_append]; rfl, ?_, by rw [List.length_append]; show ks.length + 1 ≤ i + 1; omega, fun q hq => ?_, (x3.trans x46).mutNew' L0⟩
        · rw [List.map_append, hks, begins_succ, if_pos pos, List.map_append]; rfl
        · rcases List.mem_append.mp hq with hq | hq
          · obtain ⟨a1, a2⟩ := hat q hq
            have nq : q.1 ≠ L := fun z => by
              rw [z, hHL] at a2; cases a2
            exact ⟨a1, by rw [upd_ne nq]; exact x46.1 _ _ (by simp) a2⟩
          · rw [List.mem_singleton.mp hq]
            refine ⟨p0, ?_⟩
            rw [upd_ne np, upd_same, es]; rfl
      · have c' : ¬ 0 ≤ h.given m - 1 - h.most - (h.given i + 1) := of_decide_eq_false (Bool.eq_false_iff.mpr c)
        exact next H5 x45 (fun z => by have := z.2; omega) _ _ _
    · obtain ⟨ks, u5, u6, u7, rfl, hHL, hks, lks, hat, x3⟩ := hP
      walk_at "un"
      have b64 : (100000000000000000000 : Int) = 10 ^ 20 := by decide
      have fresh : ∀ p ∈ ks, SqT K H' p.1 (p.2.map V.int) := fun p hp => SqT.of (hat p hp).2
      refine ⟨_, rfl, L, ks, rfl, SqL.of hHL, fresh, by omega, fun a S ha sub all => ?_⟩
      have y4 := Ex.new (B := []) (o := SetTO P w a S) ha
      have inB : ∀ p ∈ S, ∃ x, p.2 = stI h x ∧ x ∈ begins h h.L := fun p hp => by
        have : p.2 ∈ ks.map (·.2) := List.mem_map.mpr ⟨p, sub p hp, rfl⟩
        rw [hks] at this
        obtain ⟨x, hx, e⟩ := List.mem_map.mp this
        exact ⟨x, e.symm, hx⟩
      have bd : ∀ x ∈ begins h h.L, 0 ≤ x ∧ x < h.drops ∧ 1 ≤ h.lostZ x ∧ h.lostZ x < h.drops := fun x hx => by
        obtain ⟨a1, a2, a3, _⟩ := (begins_mem hk x).mp hx
        exact ⟨a1, a2, a3, Hill.lost_lt hL0 hk.nn hd hm0 (Hill.lostZ_spec hL0 hk.nn hk.op hd x)⟩
      refine ⟨a, S, 2, 10 ^ 20, rfl, upd_same, fun p hp => SqT.of (y4.1 _ _ (by simp) (hat p (sub p hp)).2), by decide, fun p hp => ?_, fun S' pz perm nodup len pw hpz => ?_⟩
      · obtain ⟨x, e, hx⟩ := inB p hp
        obtain ⟨a1, a2, a3, a4⟩ := bd x hx
        rw [e]
        refine ⟨rfl, fun z hz => ?_⟩
        unfold stI at hz
        simp only [List.mem_cons, List.not_mem_nil, or_false] at hz
        rcases hz with rfl | rfl <;> omega
      have code2 : ∀ x y : Int, TS.code (10 ^ 20) [x, y] = x * 10 ^ 20 + y := fun x y => by
        show x * ((10 : Int) ^ 20) ^ 1 + (y * ((10 : Int) ^ 20) ^ 0 + 0) = _
        rw [Int.pow_succ, Int.pow_zero, Int.one_mul, Int.mul_one, Int.add_zero]
      have inS : ∀ p ∈ S', ∃ x, p.2 = stI h x ∧ p.2.headD 0 = x ∧ x ∈ begins h h.L ∧ p ∈ S := fun p hp => by
        have hp' := perm.mem_iff.mp hp
        obtain ⟨x, e, hx⟩ := inB p hp'
        exact ⟨x, e, by rw [e]; rfl, hx, hp'⟩
      have x5 := (x3.trans y4).trans (Ex.new (B := []) (o := .lst (S'.map fun q => V.ref q.1)) hpz)
      have pz0 : H pz = none := (x3.trans y4).free hpz
      refine q (S'.map fun p => p.2.headD 0) _ pz _ ⟨?_, fun x => ?_⟩ pz0 upd_same (fun B hB => ?_) x5
      · rw [List.pairwise_map, List.pairwise_iff_getElem]
        intro i j hi hj hij
        have c := List.pairwise_iff_getElem.mp pw i j hi hj hij
        have n := List.pairwise_iff_getElem.mp nodup i j (by rw [List.length_map]; exact hi) (by rw [List.length_map]; exact hj) hij
        rw [List.getElem_map, List.getElem_map] at n
        obtain ⟨x, e1, e2, hx, _⟩ := inS _ (List.getElem_mem hi)
        obtain ⟨x', e1', e2', hx', _⟩ := inS _ (List.getElem_mem hj)
        rw [e2, e2']
        rw [e1, e1'] at c n
        unfold stI at c
        rw [code2, code2] at c
        obtain ⟨a1, a2, a3, a4⟩ := bd x hx
        obtain ⟨b1, b2, b3, b4⟩ := bd x' hx'
        have ne : x ≠ x' := fun z => n (by rw [z])
        omega
      · rw [← begins_mem hk x, List.mem_map]
        constructor
        · rintro ⟨p, hp, rfl⟩
          obtain ⟨x, _, e2, hx, _⟩ := inS p hp
          rw [e2]; exact hx
        · intro hx
          have : stI h x ∈ ks.map (·.2) := by rw [hks]; exact List.mem_map.mpr ⟨x, hx, rfl⟩
          obtain ⟨p, hp, e⟩ := List.mem_map.mp this
          obtain ⟨p', hp', e'⟩ := List.mem_map.mp (all p hp)
          refine ⟨p', perm.mem_iff.mpr hp', ?_⟩
          rw [e', e]; rfl
      · refine dpa_of (by rw [List.length_map, List.length_map, List.length_map]) fun i u hu => ?_
        rw [List.getElem?_map] at hu
        obtain ⟨p, hp, rfl⟩ := Option.map_eq_some_iff.mp hu
        obtain ⟨x, e1, e2, _, hpS⟩ := inS p (List.mem_of_getElem? hp)
        obtain ⟨a1, a2⟩ := hat p (sub p hpS)
        have a3 := y4.1 _ _ (by simp) a2
        have nz : p.1 ≠ pz := ne_of_none a3 hpz
        refine ⟨stD h x, by rw [List.getElem?_map, List.getElem?_map, hp]; show some (stD h (p.2.headD 0)) = _; rw [e2], ?_⟩
        refine .tup (SqT.of (wo_of (fun z => ?_) (by rw [upd_ne nz]; exact a3))) (by rw [e1]; exact dpa_of_ints _)
        rcases List.mem_cons.mp z with z | z
        · exact nz z
        · exact hB _ z a1
end
end Z28
set_option Elab.async false
set_option linter.all false
namespace Hz
namespace Hill
/-- the line behind so many turns -/
noncomputable def ledN (h : Hill) (a : Nat) (x : Int) : Nat → Int
  | 0 => x
  | k + 1 => h.ledZ ((a + k) % h.needs.length) (ledN h a x k)
def lineZ (h : Hill) (s : Now) : Int := h.given s.day - s.pot
theorem ledN_shift (h : Hill) (a : Nat) (x : Int) : ∀ k, h.ledN a x (k + 1) = h.ledN ((a + 1) % h.needs.length) (h.ledZ (a % h.needs.length) x) k
  | 0 => rfl
  | k + 1 => by
    show h.ledZ ((a + (k + 1)) % h.needs.length) (h.ledN a x (k + 1)) = h.ledZ (((a + 1) % h.needs.length + k) % h.needs.length) _
    rw [ledN_shift h a x k, Nat.mod_add_mod, show a + 1 + k = a + (k + 1) by omega]
section
variable {h : Hill} (hL : 0 < h.L) (hN : h.Nn) (ho : ∃ d, d ∈ h.year ∧ d.2 = true) (hd : 0 < h.drops)
include hL hN ho hd
theorem ledZ_year (i : Nat) (x k : Int) : h.ledZ i (x + k * h.drops) = h.ledZ i x + k * h.drops := by
  have e : x + k * h.drops + h.need i = x + h.need i + k * h.drops := by omega
  unfold ledZ
  rw [e, lostZ_year hL hN ho hd]
  omega
theorem ledN_year (a : Nat) (x k : Int) : ∀ n, h.ledN a (x + k * h.drops) n = h.ledN a x n + k * h.drops
  | 0 => rfl
  | n + 1 => by
    show h.ledZ _ (h.ledN a (x + k * h.drops) n) = h.ledZ _ (h.ledN a x n) + _
    rw [ledN_year a x k n, ledZ_year hL hN ho hd]
theorem ledZ_mono (i : Nat) {x y : Int} (l : x ≤ y) : h.ledZ i x ≤ h.ledZ i y := lost_mono hL hN (lostZ_spec hL hN ho hd _) (lostZ_spec hL hN ho hd _) (by omega)
theorem ledN_mono (a : Nat) {x y : Int} (l : x ≤ y) : ∀ n, h.ledN a x n ≤ h.ledN a y n
  | 0 => l
  | n + 1 => ledZ_mono hL hN ho hd _ (ledN_mono a l n)
/-- a turn by its line -/
theorem turn_led (hn : ∀ m ∈ h.needs, 0 ≤ m) {s : Now} {r : Now × Int} (a : h.At s) (t : h.Turn s r) : h.lineZ r.1 = h.ledZ s.ant (h.lineZ s) ∧ r.2 = h.lostZ (h.lineZ s + h.need s.ant) ∧ r.1.ant = (s.ant + 1) % h.needs.length := by
  obtain ⟨m, hm, rfl⟩ := t
  obtain ⟨e1, e2⟩ := turn_line hL hN hn a hm (lostZ_spec hL hN ho hd _)
  exact ⟨e2, e1.symm, rfl⟩
theorem rows_led (hm : 0 ≤ h.most) (hn : ∀ m ∈ h.needs, 0 ≤ m) : ∀ {l : List (Now × Int)} {s : Now} {k : Nat} {r : Now × Int}, h.At s → h.Rows s l → l[k]? = some r →
    h.lineZ r.1 = h.ledN s.ant (h.lineZ s) (k + 1) ∧ r.2 = h.lostZ (h.ledN s.ant (h.lineZ s) k + h.need ((s.ant + k) % h.needs.length)) ∧ r.1.ant = (s.ant + (k + 1)) % h.needs.length
  | [], _, _, _, _, _, e => by simp at e
  | r :: l, s, 0, r', a, x, e => by
    simp at e
    subst e
    obtain ⟨e1, e2, e3⟩ := turn_led hL hN ho hd hn a x.1
    have em : s.ant % h.needs.length = s.ant := Nat.mod_eq_of_lt a.an
    refine ⟨?_, ?_, e3⟩
    · rw [e1]; show _ = h.ledZ ((s.ant + 0) % _) (h.lineZ s); rw [Nat.add_zero, em]
    · rw [e2]; show _ = h.lostZ (h.lineZ s + h.need ((s.ant + 0) % _)); rw [Nat.add_zero, em]
  | r :: l, s, k + 1, r', a, x, e => by
    have e' : l[k]? = some r' := by simpa using e
    obtain ⟨e1, e2, e3⟩ := turn_led hL hN ho hd hn a x.1
    have em : s.ant % h.needs.length = s.ant := Nat.mod_eq_of_lt a.an
    obtain ⟨i1, i2, i3⟩ := rows_led hm hn (turn_at hm a x.1) x.2 e'
    have sh : ∀ j, h.ledN r.1.ant (h.lineZ r.1) j = h.ledN s.ant (h.lineZ s) (j + 1) := fun j => by rw [ledN_shift, e1, e3, em]
    have ea : ∀ j, (r.1.ant + j) % h.needs.length = (s.ant + (j + 1)) % h.needs.length := fun j => by rw [e3, Nat.mod_add_mod, show s.ant + 1 + j = s.ant + (j + 1) by omega]
    exact ⟨by rw [i1, sh], by rw [i2, sh, ea], by rw [i3, ea]⟩
end
end Hill
end Hz
set_option linter.all false
namespace Hz
/-! ### windows: which steps around a ring lead into a lot of numbers -/
def Inw (s A l h : Int) (n : Nat) : Prop := l ≤ (n * s) % A ∧ (n * s) % A ≤ h
def Fst (s A l h : Int) : Option Nat → Prop
  | none => ∀ n : Nat, ¬ Inw s A l h n
  | some n => Inw s A l h n ∧ ∀ k : Nat, k < n → ¬ Inw s A l h k
def ceilD (a s : Int) : Int := -(-a / s)
theorem emod_of {x s q r : Int} (h : x = q * s + r) (h0 : 0 ≤ r) (h1 : r < s) : x % s = r := by
  rw [h, Int.add_comm, Int.add_mul_emod_self_right]
  exact Int.emod_eq_of_lt h0 h1
theorem ediv_of {x s q r : Int} (h : x = q * s + r) (h0 : 0 ≤ r) (h1 : r < s) : x / s = q := by
  rw [h, Int.add_comm, Int.add_mul_ediv_right _ _ (by omega), Int.ediv_eq_zero_of_lt h0 h1]
  omega
theorem ceil_of {a s n : Int} (h0 : (n - 1) * s < a) (h1 : a ≤ n * s) : ceilD a s = n := by
  have e : (n - 1) * s = n * s - s := by rw [Int.sub_mul, Int.one_mul]
  unfold ceilD
  rw [ediv_of (x := -a) (s := s) (q := -n) (r := n * s - a) (by rw [Int.neg_mul]; omega) (by omega) (by omega)]
  omega
theorem ceil_le {a b s : Int} (hs : 0 < s) (h : a ≤ b) : ceilD a s ≤ ceilD b s := by
  have := Int.ediv_le_ediv hs (show -b ≤ -a by omega)
  unfold ceilD
  omega
/-- what the windows' ring shrinks to -/
structure Wd (s A l h : Int) : Prop where
  s0 : 0 < s
  sA : s < A
  l0 : 0 < l
  lh : l ≤ h
  hA : h < A
  no : h / s * s < l
theorem Wd.block {s A l h : Int} (w : Wd s A l h) : ∃ q, q = h / s ∧ q * s < l ∧ h < q * s + s := by
  refine ⟨h / s, rfl, w.no, ?_⟩
  have := Int.emod_lt_of_pos h w.s0
  have e := Int.mul_ediv_add_emod h s
  rw [Int.mul_comm] at e
  omega
theorem Wd.negmod {s A l h : Int} (w : Wd s A l h) {q x : Int} (h1 : q * s < l) (h2 : h < q * s + s) (hx : l ≤ x) (hy : x ≤ h) : (-x) % s = q * s + s - x := by
  refine emod_of (q := -(q + 1)) ?_ (by omega) (by omega)
  rw [Int.neg_mul, Int.add_mul, Int.one_mul]
  omega
/-- the lesser ring's own bounds -/
theorem Wd.less {s A l h : Int} (w : Wd s A l h) : 0 ≤ A % s ∧ A % s < s ∧ 0 < -h % s ∧ -h % s ≤ -l % s ∧ -l % s < s := by
  obtain ⟨q, _, h1, h2⟩ := w.block
  have := w.lh
  have e1 := w.negmod h1 h2 w.lh (Int.le_refl _)
  have e2 := w.negmod h1 h2 (Int.le_refl _) w.lh
  refine ⟨Int.emod_nonneg _ (by have := w.s0; omega), Int.emod_lt_of_pos _ w.s0, by omega, by omega, by omega⟩
theorem Wd.ceil {s A l h x m : Int} {n : Nat} (w : Wd s A l h) (e : n * s = m * A + x) (h1 : l ≤ x) (h2 : x ≤ h) : ceilD (m * A + l) s = n := by
  obtain ⟨q, _, q1, q2⟩ := w.block
  refine ceil_of ?_ (by omega)
  rw [Int.sub_mul, Int.one_mul]
  omega
theorem Wd.to {s A l h : Int} (w : Wd s A l h) {n : Nat} (i : Inw s A l h n) : ∃ m : Nat, Inw (A % s) s (-h % s) (-l % s) m ∧ ceilD (m * A + l) s = n := by
  obtain ⟨q, _, q1, q2⟩ := w.block
  have hA : 0 < A := by have := w.s0; have := w.sA; omega
  have hn : 0 ≤ (n : Int) * s := Int.mul_nonneg (by omega) (by have := w.s0; omega)
  have e := Int.mul_ediv_add_emod ((n : Int) * s) A
  have d0 : 0 ≤ (n : Int) * s / A := Int.ediv_nonneg hn (by omega)
  obtain ⟨i1, i2⟩ := i
  generalize ((n : Int) * s) % A = x at e i1 i2
  obtain ⟨m, hm⟩ := Int.eq_ofNat_of_zero_le d0
  rw [hm, Int.mul_comm] at e
  refine ⟨m, ?_, w.ceil e.symm i1 i2⟩
  have ex := w.negmod q1 q2 i1 i2
  have eh := w.negmod q1 q2 w.lh (Int.le_refl _)
  have el := w.negmod q1 q2 (Int.le_refl _) w.lh
  have key : ((m : Int) * (A % s)) % s = (-x) % s := by
    rw [Int.mul_emod, Int.emod_emod, ← Int.mul_emod]
    have : (m : Int) * A = -x + n * s := by omega
    rw [this, Int.add_mul_emod_self_right]
  unfold Inw
  rw [key]
  omega
theorem Wd.from {s A l h : Int} (w : Wd s A l h) {m : Nat} (i : Inw (A % s) s (-h % s) (-l % s) m) : ∃ n : Nat, ceilD (m * A + l) s = n ∧ Inw s A l h n := by
  obtain ⟨q, _, q1, q2⟩ := w.block
  have hA : 0 < A := by have := w.s0; have := w.sA; omega
  have key : ((m : Int) * (A % s)) % s = ((m : Int) * A) % s := by
    rw [Int.mul_emod, Int.emod_emod, ← Int.mul_emod]
  have eh := w.negmod q1 q2 w.lh (Int.le_refl _)
  have el := w.negmod q1 q2 (Int.le_refl _) w.lh
  unfold Inw at i
  rw [key, eh, el] at i
  have e := Int.mul_ediv_add_emod ((m : Int) * A) s
  generalize ((m : Int) * A) % s = y at e i
  have hd : 0 ≤ (m : Int) * A / s := Int.ediv_nonneg (Int.mul_nonneg (by omega) (by omega)) (by have := w.s0; omega)
  have hq : -1 ≤ q := by
    have h1 := w.l0
    have h2 := w.lh
    by_cases c : q + 1 < 0
    · have : (q + 1) * s ≤ 0 := Int.mul_nonpos_of_nonpos_of_nonneg (by omega) (by have := w.s0; omega)
      rw [Int.add_mul, Int.one_mul] at this
      omega
    · omega
  obtain ⟨n, hn⟩ := Int.eq_ofNat_of_zero_le (show 0 ≤ (m : Int) * A / s + q + 1 by omega)
  have en : (n : Int) * s = m * A + (q * s + s - y) := by
    have : (n : Int) = (m : Int) * A / s + q + 1 := hn.symm
    rw [this, Int.add_mul, Int.add_mul, Int.one_mul, Int.mul_comm (_ / _) s]
    omega
  refine ⟨n, w.ceil en (by omega) (by omega), ?_⟩
  have := w.l0
  have := w.hA
  have ex : ((n : Int) * s) % A = q * s + s - y := emod_of en (by omega) (by omega)
  unfold Inw
  rw [ex]
  omega
/-- what of the lesser ring is known is known of the ring -/
theorem Wd.some {s A l h : Int} (w : Wd s A l h) {m : Nat} (f : Fst (A % s) s (-h % s) (-l % s) (some m)) : ∃ n : Nat, ceilD (m * A + l) s = n ∧ Fst s A l h (some n) := by
  obtain ⟨n, hn, i⟩ := w.from f.1
  refine ⟨n, hn, i, fun k hk ik => ?_⟩
  obtain ⟨j, ij, ej⟩ := w.to ik
  by_cases c : j < m
  · exact f.2 j c ij
  · have : (m : Int) * A ≤ j * A := Int.mul_le_mul_of_nonneg_right (by omega) (by have := w.s0; have := w.sA; omega)
    have := ceil_le w.s0 (show (m : Int) * A + l ≤ j * A + l by omega)
    omega
theorem Wd.none {s A l h : Int} (w : Wd s A l h) (f : Fst (A % s) s (-h % s) (-l % s) none) : Fst s A l h none := fun n i => by
  obtain ⟨m, im, _⟩ := w.to i
  exact f m im
theorem fst_zero {A l h : Int} (h0 : 0 < l) : Fst 0 A l h none := fun n i => by
  obtain ⟨i1, _⟩ := i
  rw [Int.mul_zero, Int.zero_emod] at i1
  omega
theorem fst_flat {s A l h : Int} (s0 : 0 < s) (l0 : 0 < l) (lh : l ≤ h) (hA : h < A) (c : l ≤ h / s * s) : ∃ n : Nat, ceilD l s = n ∧ Fst s A l h (some n) := by
  have e := Int.mul_ediv_add_emod l s
  have e1 := Int.emod_nonneg l (show s ≠ 0 by omega)
  have e2 := Int.emod_lt_of_pos l s0
  have eh := Int.mul_ediv_add_emod h s
  have eh1 := Int.emod_nonneg h (show s ≠ 0 by omega)
  rw [Int.mul_comm] at e eh
  have d0 : 0 ≤ l / s := Int.ediv_nonneg (by omega) (by omega)
  -- the least n with l ≤ n s
  obtain ⟨n, n1, n2, n3⟩ : ∃ n : Nat, ((n : Int) - 1) * s < l ∧ l ≤ n * s ∧ (n : Int) * s ≤ h := by
    by_cases z : l % s = 0
    · obtain ⟨n, hn⟩ := Int.eq_ofNat_of_zero_le d0
      refine ⟨n, ?_, ?_, ?_⟩ <;> (have hn' : (n : Int) = l / s := hn.symm) <;> rw [hn'] <;> (try rw [Int.sub_mul, Int.one_mul]) <;> omega
    · obtain ⟨n, hn⟩ := Int.eq_ofNat_of_zero_le (show 0 ≤ l / s + 1 by omega)
      have hn' : (n : Int) = l / s + 1 := hn.symm
      have lt : l / s < h / s := by
        refine Int.not_le.mp fun g => ?_
        have := Int.mul_le_mul_of_nonneg_right g (show 0 ≤ s by omega)
        omega
      have := Int.mul_le_mul_of_nonneg_right (show l / s + 1 ≤ h / s by omega) (show 0 ≤ s by omega)
      rw [Int.add_mul, Int.one_mul] at this
      refine ⟨n, ?_, ?_, ?_⟩ <;> rw [hn']
      · rw [Int.add_sub_cancel]; omega
      · rw [Int.add_mul, Int.one_mul]; omega
      · rw [Int.add_mul, Int.one_mul]; omega
  refine ⟨n, ceil_of n1 n2, ?_, fun k hk i => ?_⟩
  · unfold Inw
    rw [Int.emod_eq_of_lt (by omega) (by omega)]
    omega
  · have : (k : Int) * s ≤ ((n : Int) - 1) * s := Int.mul_le_mul_of_nonneg_right (by omega) (by omega)
    have k0 : 0 ≤ (k : Int) * s := Int.mul_nonneg (by omega) (by omega)
    have i1 := i.1
    rw [Int.emod_eq_of_lt k0 (by omega)] at i1
    omega
/-! ### from any begin on -/
def Inb (b st A l h : Int) (n : Nat) : Prop := l ≤ (b + n * st) % A ∧ (b + n * st) % A ≤ h
def Fsb (b st A l h : Int) : Option Nat → Prop
  | none => ∀ n : Nat, ¬ Inb b st A l h n
  | some n => Inb b st A l h n ∧ ∀ k : Nat, k < n → ¬ Inb b st A l h k
theorem fsb_uniq {b st A l h : Int} : ∀ {x y : Option Nat}, Fsb b st A l h x → Fsb b st A l h y → x = y
  | none, none, _, _ => rfl
  | none, some m, f, g => absurd g.1 (f m)
  | some n, none, f, g => absurd f.1 (g n)
  | some n, some m, f, g => by
    rcases Nat.lt_trichotomy n m with c | c | c
    · exact absurd f.1 (g.2 n c)
    · rw [c]
    · exact absurd g.1 (f.2 m c)
theorem inb_iff {b st A l h : Int} (A0 : 0 < A) (l0 : 0 ≤ l) (lh : l ≤ h) (hA : h < A) (c0 : (l - b) % A ≠ 0) (c1 : (l - b) % A + h - l < A) (n : Nat) : Inb b st A l h n ↔ Inw (st % A) A ((l - b) % A) ((l - b) % A + h - l) n := by
  have a0 := Int.emod_nonneg (l - b) (show A ≠ 0 by omega)
  have a1 := Int.emod_lt_of_pos (l - b) A0
  have e := Int.mul_ediv_add_emod (l - b) A
  rw [Int.mul_comm] at e
  have z0 := Int.emod_nonneg ((n : Int) * (st % A)) (show A ≠ 0 by omega)
  have z1 := Int.emod_lt_of_pos ((n : Int) * (st % A)) A0
  have key : ((n : Int) * (st % A)) % A = ((n : Int) * st) % A := by
    rw [Int.mul_emod, Int.emod_emod, ← Int.mul_emod]
  have ez := Int.mul_ediv_add_emod ((n : Int) * st) A
  rw [Int.mul_comm A] at ez
  unfold Inb Inw
  rw [key] at z0 z1 ⊢
  generalize ((n : Int) * st) % A = z at *
  generalize ((n : Int) * st) / A = k at *
  generalize (l - b) % A = a at *
  generalize (l - b) / A = j at *
  have eb : b + n * st = (k - j) * A + (l - a + z) := by rw [Int.sub_mul]; omega
  rcases Int.lt_or_le z a with c | c
  · rcases Int.lt_or_le (l - a + z) 0 with d | d
    · rw [emod_of (q := k - j - 1) (r := l - a + z + A) (by rw [eb, Int.sub_mul (k - j), Int.one_mul]; omega) (by omega) (by omega)]
      omega
    · rw [emod_of (q := k - j) (r := l - a + z) eb d (by omega)]
      omega
  · rcases Int.lt_or_le (l - a + z) A with d | d
    · rw [emod_of (q := k - j) (r := l - a + z) eb (by omega) d]
      omega
    · rw [emod_of (q := k - j + 1) (r := l - a + z - A) (by rw [eb, Int.add_mul (k - j), Int.one_mul]; omega) (by omega) (by omega)]
      omega
theorem inb_now {b st A l h : Int} (A0 : 0 < A) (l0 : 0 ≤ l) (lh : l ≤ h) (hA : h < A) (c : (l - b) % A = 0 ∨ A ≤ (l - b) % A + h - l) : Inb b st A l h 0 := by
  have a0 := Int.emod_nonneg (l - b) (show A ≠ 0 by omega)
  have a1 := Int.emod_lt_of_pos (l - b) A0
  have e := Int.mul_ediv_add_emod (l - b) A
  rw [Int.mul_comm] at e
  unfold Inb
  rw [Int.ofNat_zero, Int.zero_mul, Int.add_zero]
  generalize (l - b) % A = a at *
  generalize (l - b) / A = j at *
  rcases c with c | c
  · rw [emod_of (q := -j) (r := l) (by rw [Int.neg_mul]; omega) l0 (by omega)]
    omega
  · rw [emod_of (q := -j - 1) (r := l - a + A) (by rw [Int.sub_mul, Int.neg_mul, Int.one_mul]; omega) (by omega) (by omega)]
    omega
theorem fsb_of {b st A l h : Int} (A0 : 0 < A) (l0 : 0 ≤ l) (lh : l ≤ h) (hA : h < A) (c0 : (l - b) % A ≠ 0) (c1 : (l - b) % A + h - l < A) : ∀ {r : Option Nat}, Fst (st % A) A ((l - b) % A) ((l - b) % A + h - l) r → Fsb b st A l h r
  | none, f => fun n i => f n ((inb_iff A0 l0 lh hA c0 c1 n).mp i)
  | some n, f => ⟨(inb_iff A0 l0 lh hA c0 c1 n).mpr f.1, fun k hk i => f.2 k hk ((inb_iff A0 l0 lh hA c0 c1 k).mp i)⟩
theorem fsb_now {b st A l h : Int} (A0 : 0 < A) (l0 : 0 ≤ l) (lh : l ≤ h) (hA : h < A) (c : (l - b) % A = 0 ∨ A ≤ (l - b) % A + h - l) : Fsb b st A l h (some 0) := ⟨inb_now A0 l0 lh hA c, fun k hk => absurd hk (Nat.not_lt_zero _)⟩
/-- as many arounds more or less -/
theorem inb_alike {b st A l h c d : Int} (n : Nat) : Inb (b + c * A) (st + d * A) A l h n ↔ Inb b st A l h n := by
  unfold Inb
  have : b + c * A + n * (st + d * A) = b + n * st + (c + n * d) * A := by
    rw [Int.mul_add, Int.add_mul, ← Int.mul_assoc]; omega
  rw [this, Int.add_mul_emod_self_right]
theorem inb_round {b st A l h : Int} (A0 : 0 < A) (n : Nat) : Inb b st A l h n ↔ Inb b st A l h (n % A.toNat) := by
  unfold Inb
  have e : (b + n * st) % A = (b + (n % A.toNat : Nat) * st) % A := by
    have h1 : (n : Int) = (n % A.toNat : Nat) + (n / A.toNat : Nat) * A := by
      have h2 := Nat.div_add_mod n A.toNat
      have h3 : ((A.toNat : Nat) : Int) = A := by omega
      have h4 : ((A.toNat * (n / A.toNat) + n % A.toNat : Nat) : Int) = n := by rw [h2]
      rw [Int.natCast_add, Int.natCast_mul, h3, Int.mul_comm] at h4
      omega
    have : b + n * st = b + (n % A.toNat : Nat) * st + ((n / A.toNat : Nat) * st) * A := by
      rw [h1, Int.add_mul, Int.mul_assoc, Int.mul_comm A st, ← Int.mul_assoc]
      omega
    rw [this, Int.add_mul_emod_self_right]
  rw [e]
end Hz
set_option Elab.async false
set_option linter.all false
namespace Hz
namespace Hill
section
variable {h : Hill} (hL : 0 < h.L) (hN : h.Nn) (ho : ∃ d, d ∈ h.year ∧ d.2 = true) (hd : 0 < h.drops) (m0 : 0 ≤ h.most)
include hL hN ho hd m0
theorem lostZ_open {d : Nat} (od : h.isOpen d = true) : h.lostZ (h.given d) = 0 := lost_none hL hN (lostZ_spec hL hN ho hd _) od (Int.le_refl _) (by omega)
theorem low_iff {x : Int} (x0 : 0 ≤ x) (x1 : x < h.drops) : (0 < h.lostZ x ∧ h.lostZ (x - 1) = 0) ↔ (0 < h.lostZ x ∧ ∃ d, h.isOpen d = true ∧ x = (h.given d + 1) % h.drops) := by
  constructor
  · rintro ⟨p, z⟩
    refine ⟨p, ?_⟩
    have ey := lostZ_year hL hN ho hd x 1
    rw [Int.one_mul] at ey
    obtain ⟨d, k, od, le, e⟩ := lost_low hL hN ho hd (y := x + h.drops) (by omega) (by rw [ey]; exact p)
    rw [ey] at e
    refine ⟨d, od, ?_⟩
    by_cases c : h.given d + 1 - k * h.drops < x + h.drops
    · exfalso
      have li := lost_in hL hN ho hd m0 (d := d) (f := x + h.drops - 1 - (h.given d + 1 - k * h.drops)) od (by omega) (by omega)
      have e2 : h.given d + 1 + (x + h.drops - 1 - (h.given d + 1 - k * h.drops)) = (x - 1) + (k + 1) * h.drops := by
        rw [Int.add_mul, Int.one_mul]; omega
      rw [e2, lostZ_year hL hN ho hd] at li
      omega
    · refine (emod_of (q := k + 1) ?_ x0 x1).symm
      rw [Int.add_mul, Int.one_mul]; omega
  · rintro ⟨p, d, od, e⟩
    refine ⟨p, ?_⟩
    have e1 := Int.mul_ediv_add_emod (h.given d + 1) h.drops
    rw [← e, Int.mul_comm] at e1
    have e2 := lostZ_year hL hN ho hd (x - 1) ((h.given d + 1) / h.drops)
    rw [← e2, show x - 1 + (h.given d + 1) / h.drops * h.drops = h.given d by omega]
    exact lostZ_open hL hN ho hd m0 od
theorem low_end (x : Int) : h.lostZ (x + h.lostZ x) = 0 := by
  obtain ⟨k, m, h1, h2, h3⟩ := lostZ_spec hL hN ho hd x
  generalize h.lostZ x = z at h3
  by_cases c : z = 0
  · rw [c, Int.add_zero]
    have e := lostZ_year hL hN ho hd x k
    rw [← e]
    refine lost_none hL hN (lostZ_spec hL hN ho hd _) h2.1 h2.2.1 ?_
    omega
  · have e := lostZ_year hL hN ho hd (x + z) k
    rw [← e]
    have hz : h.given m = h.most + (x + k * h.drops) + z := by omega
    exact lost_none hL hN (lostZ_spec hL hN ho hd _) h2.1 (by omega) (by omega)
theorem low_run {x j : Int} (j0 : 0 ≤ j) : h.lostZ x ≤ j + h.lostZ (x + j) := by
  have := lost_mono hL hN (lostZ_spec hL hN ho hd x) (lostZ_spec hL hN ho hd (x + j)) (by omega)
  omega
end
end Hill
end Hz
set_option Elab.async false
set_option linter.all false
namespace Hz
namespace Hill
/-- the greatest number that is led to no more than y -/
def Back (h : Hill) (y r : Int) : Prop := ∀ n : Int, n + h.lostZ n ≤ y ↔ n ≤ r
/-- the greatest line from which so many turns lead to no more than y -/
def Late (h : Hill) (a n : Nat) (y r : Int) : Prop := ∀ x : Int, h.ledN a x n ≤ y ↔ x ≤ r
theorem late_uniq {h : Hill} {a n : Nat} {y r r' : Int} (p : h.Late a n y r) (q : h.Late a n y r') : r = r' := by
  have e : ∀ x : Int, x ≤ r ↔ x ≤ r' := fun x => (p x).symm.trans (q x)
  have := (e r).mp (Int.le_refl _)
  have := (e r').mpr (Int.le_refl _)
  omega
theorem late_zero {h : Hill} {a : Nat} {y : Int} : h.Late a 0 y y := fun _ => Iff.rfl
theorem late_step {h : Hill} {a n : Nat} {y r r' : Int} (b : h.Back y r) (l : h.Late a n (r - h.need ((a + n) % h.needs.length)) r') : h.Late a (n + 1) y r' := fun x => by
  rw [← l x]
  show h.ledZ ((a + n) % h.needs.length) (h.ledN a x n) ≤ y ↔ _
  unfold ledZ
  rw [b]
  constructor <;> intro <;> omega
theorem ledN_add (h : Hill) (a : Nat) (x : Int) (p : Nat) : ∀ n, h.ledN a x (p + n) = h.ledN ((a + p) % h.needs.length) (h.ledN a x p) n
  | 0 => rfl
  | n + 1 => by
    show h.ledZ ((a + (p + n)) % _) (h.ledN a x (p + n)) = h.ledZ (((a + p) % _ + n) % _) _
    rw [ledN_add h a x p n, Nat.mod_add_mod, Nat.add_assoc]
theorem late_add {h : Hill} {a p n : Nat} {y m r : Int} (l : h.Late ((a + p) % h.needs.length) n y m) (l' : h.Late a p m r) : h.Late a (p + n) y r := fun x => by
  rw [ledN_add, l, l']
section
variable {h : Hill} (hL : 0 < h.L) (hN : h.Nn) (ho : ∃ d, d ∈ h.year ∧ d.2 = true) (hd : 0 < h.drops)
include hL hN ho hd
theorem late_year {a n : Nat} {y r : Int} (l : h.Late a n y r) (k : Int) : h.Late a n (y + k * h.drops) (r + k * h.drops) := fun x => by
  have e := ledN_year hL hN ho hd a (x + -k * h.drops) k n
  rw [show x + -k * h.drops + k * h.drops = x by rw [Int.neg_mul]; omega] at e
  rw [e]
  have := l (x + -k * h.drops)
  rw [Int.neg_mul] at this ⊢
  constructor
  · intro p; have := this.mp (by omega); omega
  · intro p; have := this.mpr (by omega); omega
theorem phi_mono {m n : Int} (l : m ≤ n) : m + h.lostZ m ≤ n + h.lostZ n := lost_mono hL hN (lostZ_spec hL hN ho hd _) (lostZ_spec hL hN ho hd _) l
theorem lostZ_nn (y : Int) : 0 ≤ h.lostZ y := (lostZ_spec hL hN ho hd y).nn
theorem back_of {y r : Int} (p : r + h.lostZ r ≤ y) (q : y < r + 1 + h.lostZ (r + 1)) : h.Back y r := fun n => by
  constructor
  · intro l
    refine Int.not_lt.mp fun c => ?_
    have := phi_mono hL hN ho hd (show r + 1 ≤ n by omega)
    omega
  · intro l
    have := phi_mono hL hN ho hd l
    omega
/-- what it is led to -/
theorem led_ge {a : Nat} (hn : ∀ m ∈ h.needs, 0 ≤ m) {x : Int} : ∀ n, x ≤ h.ledN a x n
  | 0 => Int.le_refl _
  | n + 1 => by
    have i := led_ge (a := a) hn (x := x) n
    have l0 := lostZ_nn hL hN ho hd (h.ledN a x n + h.need ((a + n) % h.needs.length))
    have n0 : 0 ≤ h.need ((a + n) % h.needs.length) := by
      unfold need
      cases q : h.needs[(a + n) % h.needs.length]? with
      | none => exact Int.le_refl _
      | some v => exact hn v (List.mem_of_getElem? q)
    show x ≤ h.ledZ _ _
    unfold ledZ
    omega
variable (hm0 : 0 ≤ h.most)
include hm0
theorem back_none {l : List Int} (o : h.Lows l) {y : Int} (no : ∀ x ∈ l, ¬ (y - x) % h.drops ≤ h.lostZ x - 1) : h.Back y y := by
  have z := Lows.without hL hN ho hd hm0 o no
  have p := lostZ_nn hL hN ho hd (y + 1)
  exact back_of hL hN ho hd (by omega) (by omega)
theorem back_in {l : List Int} (o : h.Lows l) {x y : Int} (hx : x ∈ l) (f : (y - x) % h.drops ≤ h.lostZ x - 1) : h.Back y (y - (y - x) % h.drops - 1) := by
  obtain ⟨x0, x1, x2, d, od, ex⟩ := (o.mem x).mp hx
  have e := Int.mul_ediv_add_emod (y - x) h.drops
  have e0 := Int.emod_nonneg (y - x) (show h.drops ≠ 0 by omega)
  have em : y - (y - x) % h.drops = x + (y - x) / h.drops * h.drops := by rw [Int.mul_comm]; omega
  have lz : h.lostZ (y - (y - x) % h.drops) = h.lostZ x := by rw [em, lostZ_year hL hN ho hd]
  have l0 := ((low_iff hL hN ho hd hm0 x0 x1).mpr ⟨x2, d, od, ex⟩).2
  have lz1 : h.lostZ (y - (y - x) % h.drops - 1) = 0 := by
    rw [em, show x + (y - x) / h.drops * h.drops - 1 = x - 1 + (y - x) / h.drops * h.drops by omega, lostZ_year hL hN ho hd, l0]
  exact back_of hL hN ho hd (by omega) (by rw [show y - (y - x) % h.drops - 1 + 1 = y - (y - x) % h.drops by omega, lz]; omega)
end
end Hill
end Hz
set_option Elab.async false
set_option linter.all false
namespace Hz
open PySem PyProof.Rows L2
variable {K : PySem.W.Frag}
theorem dpa_snoc {G : Hp} : ∀ {l : List V} {ds : List PyData} {v : V} {d : PyData}, DpAll K G l ds → Dp K G v d → DpAll K G (l ++ [v]) (ds ++ [d])
  | _, _, _, _, .nil, h => .cons h .nil
  | _, _, _, _, .cons a b, h => .cons a (dpa_snoc b h)
/-- a comprehension with a test, over a list or a tuple: of each item what f tells -/
theorem z_lcQ {t : Bool} {g : TG} {tt : TT} {te : TE} {vs : List Nat} {σ : L2.St} {H : Hp} {B : List Addr} {xs : List V} {tl : TE} {Q : VK} (htl : ∀ R : VK, (∀ a H1, Ex [] H H1 → SqX t K H1 a xs → R (.ref a) H1) → tl σ H R) (hn : xs.length < 100000) (f : Nat → Option PyData) (hB : ∀ b ∈ B, H b ≠ none)
    (turn : ∀ H1, Ex [] H H1 → ∀ (i : Nat) x, xs[i]? = some x → ∀ D H', H' D ≠ none → D ∉ B → Ex [] H1 H' → ∀ (N : VK) (M : Hp → Prop), (∀ d z H3, f i = some d → Ex [] H' H3 → Dp K (wo (D :: B) H3) z d → N z H3) → (f i = none → ∀ H3, Ex [] H' H3 → M H3) →
      g x (wipe σ vs) H' fun σ2 H2 => wipe σ2 vs = wipe σ vs ∧ tt σ2 H2 fun b H3 => if b = true then te σ2 H3 N else M H3)
    (fin : ∀ D zs H', H D = none → H' D = some (.lst zs) → zs.length ≤ xs.length → DpAll K (wo (D :: B) H') zs ((List.range xs.length).filterMap f) → Ex [] H H' → Q (.ref D) H') : tLc (fun σ H R => iList K tl σ H R ∨ iTup K tl σ H R) g tt te vs σ H Q := by
  have lt : ∀ {i : Nat} {x : V}, xs[i]? = some x → i < xs.length := fun h => by
    obtain ⟨h, _⟩ := List.getElem?_eq_some_iff.mp h
    exact h
  -- what holds behind i items
  have core : ∀ H1, Ex [] H H1 → ∀ D, H1 D = none → ∀ i x, xs[i]? = some x → ∀ H', (Ex [] H1 H' ∧ ∃ zs, H' D = some (.lst zs) ∧ zs.length ≤ i ∧ DpAll K (wo (D :: B) H') zs ((List.range i).filterMap f)) →
      g x (wipe σ vs) H' fun σ2 H2 => wipe σ2 vs = wipe σ vs ∧ tt σ2 H2 fun b H3 => if b = true then te σ2 H3 fun y H4 => ∃ acc, H4 D = some (.lst acc) ∧ acc.length < sizeLine ∧ (Ex [] H1 (upd H4 D (.lst (acc ++ [y]))) ∧ ∃ zs, upd H4 D (.lst (acc ++ [y])) D = some (.lst zs) ∧ zs.length ≤ i + 1 ∧ DpAll K (wo (D :: B) (upd H4 D (.lst (acc ++ [y])))) zs ((List.range (i + 1)).filterMap f)) else (Ex [] H1 H3 ∧ ∃ zs, H3 D = some (.lst zs) ∧ zs.length ≤ i + 1 ∧ DpAll K (wo (D :: B) H3) zs ((List.range (i + 1)).filterMap f)) := fun H1 x1 D hD i x hx H' hP => by
    obtain ⟨e1, zs, hz, lz, hA⟩ := hP
    have nB : D ∉ B := fun z => hB D z (x1.free hD)
    have up : ∀ {G G' : Hp} {o : HO}, Ex [] G G' → Le (wo (D :: B) G) (wo (D :: B) (upd G' D o)) := fun x a o q => by
      obtain ⟨n1, n2⟩ := wo_some q
      exact wo_of n1 (by rw [upd_ne (fun z => n1 (by rw [z]; exact List.mem_cons_self))]; exact x.1 _ _ (by simp) n2)
    have nn : H' D ≠ none := by rw [hz]; exact fun z => by cases z
    refine turn H1 x1 i x hx D H' nn nB e1 _ _ (fun d z H3 hf x3 hd => ?_) (fun hf H3 x3 => ?_)
    · refine ⟨zs, x3.1 _ _ (by simp) hz, sz_lt (by have := lt hx; omega), (e1.trans x3).mutNew' hD, zs ++ [z], upd_same, by rw [List.length_append, List.length_singleton]; omega, ?_⟩
      rw [List.range_succ, List.filterMap_append, List.filterMap_cons, hf, List.filterMap_nil]
      exact dpa_snoc (dpa_le (up x3) _ _ hA) (dp_le (up (Ex.refl _ _)) _ _ hd)
    · refine ⟨e1.trans x3, zs, x3.1 _ _ (by simp) hz, by omega, ?_⟩
      rw [List.range_succ, List.filterMap_append, List.filterMap_cons, hf, List.filterMap_nil, List.append_nil]
      exact dpa_le x3.nil.wo _ _ hA
  have start : ∀ H1, ∀ D, H1 D = none → (Ex [] H1 (upd H1 D (.lst [])) ∧ ∃ zs, upd H1 D (.lst []) D = some (.lst zs) ∧ zs.length ≤ 0 ∧ DpAll K (wo (D :: B) (upd H1 D (.lst []))) zs ((List.range 0).filterMap f)) := fun H1 D hD => ⟨Ex.new hD, [], upd_same, Nat.le_refl _, .nil⟩
  cases t with
  | false => exact .inl (htl _ fun a H1 x1 hS => ⟨a, rfl, ⟨xs, hS⟩, fun D hD => lc_list (fun i H' => Ex [] H1 H' ∧ ∃ zs, H' D = some (.lst zs) ∧ zs.length ≤ i ∧ DpAll K (wo (D :: B) H') zs ((List.range i).filterMap f)) (start H1 D hD) (fun i H' _ p => le_l p.1.le0 hS) (fun i x H' hx p => core H1 x1 D hD i x hx H' p) (fun H' p => by obtain ⟨e1, zs, hz, lz, hA⟩ := p; exact fin D zs H' (x1.free hD) hz lz hA (x1.trans e1))⟩)
  | true => exact .inr (htl _ fun a H1 x1 hS => ⟨a, rfl, ⟨xs, hS⟩, fun D hD => lc_tup (fun i H' => Ex [] H1 H' ∧ ∃ zs, H' D = some (.lst zs) ∧ zs.length ≤ i ∧ DpAll K (wo (D :: B) H') zs ((List.range i).filterMap f)) (start H1 D hD) (fun i H' _ p => le_t p.1.le0 hS) (fun i x H' hx p => core H1 x1 D hD i x hx H' p) (fun H' p => by obtain ⟨e1, zs, hz, lz, hA⟩ := p; exact fin D zs H' (x1.free hD) hz lz hA (x1.trans e1))⟩)
end Hz
set_option Elab.async false
set_option linter.all false
set_option maxRecDepth 100000
set_option maxHeartbeats 4000000
namespace Z28
open PySem PySem.Spec PyProof.Rows L2 Hz
section
variable {P : Program} {w : World} {K : PySem.W.Frag} {mg : Str → Option Value} {base : Heap}
local macro_rules | `(tactic| walk_at "un") => `(tactic| try dsimp only [tSeq, tIfS, tRet, tAsg, tDrop, tOr, tAnd, tNot, tAndV, tOrV, tNotV, tTest, tB, tOp, tUn, tCB, tCons, tNil, tC, tNext, tIf, tChain, gName, tPar, tPar3, tTup, tLst])
def spBack (K : PySem.W.Frag) : Sp := fun vs H Q _ => ∃ (h : Hill) (l : List Int) (p : Addr) (us : List V) (y : Int), vs = [.ref p, .int h.drops, .int y] ∧ HillOk h ∧ h.Lows l ∧ SqL K H p us ∧ DpAll K H us (l.map (stD h)) ∧ ∀ r, h.Back y r → Q (.int r) H
theorem ok_number_back (T : Txt K mg) : FnOk P w K mg base CX0 1 T.a_number_back T.d_number_back P_number_back (spBack K) := by
  have nd := sc_number_back.nd
  refine T.F_number_back.ok sc_number_back (fun vs H Q E h => ?_) (fun cdv A outer s H vs Q E hr h => ?_)
  · obtain ⟨h, l, p, us, y, rfl, _⟩ := h
    rfl
  · obtain ⟨h, l, p, us, y, rfl, hk, hl, hS, hA, q⟩ := h
    have hd := hk.dr
    refine ⟨_, (pss_cons (ps_for PassesOwn.never rfl (pi_seqK K (pv 0)) (pg_tupK K 2 (by rfl) (pgs_cons (pg_name (i := 3) nd rfl (Or.inl rfl)) (pgs_cons (pg_name (i := 4) nd rfl (Or.inl rfl)) pgs_nil))) (pss_cons (ps_set (i := 5) nd rfl (Or.inl rfl) (pe_op op_mod (pe_op op_sub (pv 2) (pv 3)) (pv 1)))
      (pss_one (ps_if (pt_cmpR op_le (pv 5) (pe_op op_sub (pv 4) (pv 3)) (nomark _)) (pss_one (ps_ret (pe_op op_sub (pe_op op_sub (pv 2) (pv 5)) pe_int))) pss_nil))))
      (pss_one (ps_ret (pv 2)))), ?_⟩
    walk_at "un"
    refine z_forS (B := []) (a := p) (xs := us) (.inl (by rw [wo_nil]; exact hS)) (fun R r => ⟨_, rfl, r⟩) (fun i σ H' => ∃ u3 u4 u5 : Option V, σ = [some (.ref p), some (.int h.drops), some (.int y), u3, u4, u5] ∧ H' = H ∧ ∀ (j : Nat) x, j < i → l[j]? = some x → ¬ (y - x) % h.drops ≤ h.lostZ x - 1)
      ⟨_, _, _, rfl, rfl, fun j x hj => absurd hj (Nat.not_lt_zero _)⟩ (fun i σ' H' hP => ?_) (fun i u σ' H' hu hP => ?_) (fun σ' H' hP => ?_)
    · obtain ⟨_, _, _, _, rfl, _⟩ := hP
      exact Ex.refl _ _
    · obtain ⟨u3, u4, u5, rfl, rfl, no⟩ := hP
      obtain ⟨d, hd', hD⟩ := dpa_get' hA hu
      rw [List.getElem?_map] at hd'
      obtain ⟨x, hx, rfl⟩ := Option.map_eq_some_iff.mp hd'
      obtain ⟨pa, qs, rfl, hSp, hqA⟩ := dp_sq (t := true) (ds := [.int x, .int (x + h.lostZ x - 1)]) hD
      have eqs := dpa_ints (ns := [x, x + h.lostZ x - 1]) hqA
      subst eqs
      refine ⟨pa, _, rfl, hSp, rfl, _, _, rfl, _, _, rfl, rfl, ?_⟩
      walk_at "un"
      refine ⟨_, rfl, _, rfl, _, _, rfl, rfl, _, rfl, _, _, rfl, rfl, hd, ?_⟩
      walk_at "un"
      refine ⟨_, rfl, _, rfl, _, rfl, _, _, rfl, rfl, _, _, rfl, rfl, _, rfl, ite2 (fun c => ?_) (fun c => ?_)⟩
      · have c' : (y - x) % h.drops ≤ x + h.lostZ x - 1 - x := of_decide_eq_true c
        refine ⟨_, rfl, _, rfl, _, _, rfl, rfl, _, _, rfl, rfl, q _ ?_⟩
        exact Hill.back_in hk.L0 hk.nn hk.op hd hk.m0 hl (List.mem_of_getElem? hx) (by omega)
      · have c' : ¬ (y - x) % h.drops ≤ x + h.lostZ x - 1 - x := of_decide_eq_false (Bool.eq_false_iff.mpr c)
        refine ⟨_, _, _, rfl, rfl, fun j x' hj hx' => ?_⟩
        by_cases e : j = i
        · subst e
          rw [hx] at hx'
          cases hx'
          omega
        · exact no j x' (by omega) hx'
    · obtain ⟨u3, u4, u5, rfl, rfl, no⟩ := hP
      have lu := dpa_len hA
      rw [List.length_map] at lu
      refine ⟨_, rfl, q _ (Hill.back_none hk.L0 hk.nn hk.op hd hk.m0 hl fun x hx => ?_)⟩
      obtain ⟨j, hj, e⟩ := List.getElem_of_mem hx
      exact no j x (by omega) (by rw [List.getElem?_eq_getElem hj, e])
def spLate (K : PySem.W.Frag) : Sp := fun vs H Q _ => ∃ (t : Bool) (h : Hill) (v : V) (a n : Nat) (y : Int), vs = [v, .int a, .int n, .int y] ∧ Dp K H v (h.dat t) ∧ HillOk h ∧ n ≤ 1000 ∧ ∀ r H', h.Late a n y r → Ex [] H H' → Q (.int r) H'
theorem ok_latest_line (T : Txt K mg) : FnOk P w K mg base CX0 5 T.a_latest_line T.d_latest_line P_latest_line (spLate K) := by
  have nd := sc_latest_line.nd
  have G_stretches := ok_stretches (P := P) (w := w) (base := base) T
  have G_year_drops := ok_year_drops (P := P) (w := w) (base := base) T
  have G_number_back := ok_number_back (P := P) (w := w) (base := base) T
  refine T.F_latest_line.ok sc_latest_line (fun vs H Q E h => ?_) (fun cdv A outer s H vs Q E hr h => ?_)
  · obtain ⟨t, h, v, a, n, y, rfl, _⟩ := h
    rfl
  · obtain ⟨t, h, v, a, n, y, rfl, hD, hk, hn, q⟩ := h
    have hr_stretches := hr
    have hr_year_drops := hr.mono (show 1 ≤ 4 by decide)
    have hr_number_back := hr.mono (show 1 ≤ 4 by decide)
    have hL0 := hk.L0
    have hn1 := hk.n1
    refine ⟨_, (pss_cons (ps_par3 (i := 4) (j := 5) (l := 6) (by rfl) nd rfl rfl rfl (by decide) (by decide) (by decide) rfl rfl rfl (pa_cons (pe_ix (ixK K) (pv 0) pe_int (fun _ _ => rfl)) (pa_cons (pe_call G_stretches hr_stretches (by rfl) T.m_stretches T.k_stretches T.b_stretches .nil pass0 (pa_cons (pv 0) pa_nil)) (pa_cons (pe_call G_year_drops hr_year_drops (by rfl) T.m_year_drops T.k_year_drops T.b_year_drops .nil pass0 (pa_cons (pv 0) pa_nil)) pa_nil))) (by rfl))
      (pss_cons (ps_for PassesOwn.never rfl (pi_range3 (by rfl) T.z_range (pa_cons (pe_op op_sub (pv 2) pe_int) (pa_cons (pe_un un_neg pe_int) (pa_cons (pe_un un_neg pe_int) pa_nil)))) (pg_name (i := 7) nd rfl (Or.inl rfl)) (pss_one (ps_set (i := 3) nd rfl (Or.inl rfl) (pe_op op_sub (pe_call G_number_back hr_number_back (by rfl) T.m_number_back T.k_number_back T.b_number_back .nil pass0 (pa_cons (pv 5) (pa_cons (pv 6) (pa_cons (pv 3) pa_nil)))) (pe_ix (ixK K) (pv 4) (pe_op op_mod (pe_op op_add (pv 1) (pv 7)) (pe_callB (lenK K) (by rfl) T.z_len (by decide +kernel) (pa_cons (pv 4) pa_nil))) (fun _ _ => rfl))))))
      (pss_one (ps_ret (pv 3))))), ?_⟩
    walk_at "un"
    refine ⟨_, rfl, z_ixD hD (Le.refl _) (j := 1) rfl rfl fun nv hnv => ?_⟩
    obtain ⟨na, ns, rfl, hnS, hnA⟩ := dp_sq hnv
    have ln := dpa_len hnA
    rw [List.length_map] at ln
    refine ⟨_, rfl, t, h, v, rfl, hD, hk, fun l us p H1 hl _ hp hU x1 => ?_⟩
    have hU1 := dpa_le (wo_le _ _) _ _ (hU [] (by simp))
    refine ⟨_, rfl, t, h, v, rfl, dp_le x1.le0 _ _ hD, hk, fun H2 x2 => ⟨_, _, _, rfl, ?_⟩⟩
    walk_at "un"
    have x12 := x1.trans x2
    have t62 : (2 : Int) ^ 62 = 4611686018427387904 := by decide
    refine ⟨_, rfl, _, _, rfl, rfl, _, rfl, _, rfl, _, _, _, (n : Int).toNat, rfl, ?_, for_rangeC (lo := (n : Int) - 1) (c := -1) (n := (n : Int).toNat) (fun i σ H' => ∃ (cur : Int) (u7 : Option V), σ = [some v, some (.int a), some (.int n), some (.int cur), some (.ref na), some (.ref p), some (.int h.drops), u7] ∧ H' = H2 ∧ (∀ r, h.Late a (n - i) cur r → h.Late a n y r))
      ⟨y, _, rfl, rfl, fun r l => l⟩ (fun i σ H' hi hP => ?_) (fun σ H' hP => ?_)⟩
    · have := RgC.neg (i := (n : Int) - 1) (j := -1) (by omega) (by omega) (by omega) (by omega)
      rw [show ((n : Int) - 1 - -1).toNat = (n : Int).toNat by omega] at this
      exact this
    · obtain ⟨cur, u7, rfl, rfl, step⟩ := hP
      walk_at "un"
      have hi' : i < n := by omega
      have A0 : 0 < h.needs.length := by omega
      have em : ((a : Int) + ((n : Int) - 1 + (i : Int) * -1)) % (h.needs.length : Int) = (((a + (n - (i + 1))) % h.needs.length : Nat) : Int) := by
        rw [show (a : Int) + ((n : Int) - 1 + (i : Int) * -1) = ((a + (n - (i + 1)) : Nat) : Int) by omega, Int.natCast_emod]
      refine ⟨_, rfl, _, rfl, _, rfl, h, l, p, us, cur, rfl, hk, hl, SqL.of (x2.1 _ _ (by simp) hp), dpa_le x2.le0 _ _ hU1, fun r hb => ?_⟩
      refine ⟨_, rfl, _, rfl, _, rfl, _, _, rfl, rfl, _, rfl, _, _, rfl, (le_x x12.le0 hnS).sq, _, _, rfl, rfl, by rw [ln]; show (0 : Int) < _; omega, ?_⟩
      rw [ln]
      have hlt := Nat.mod_lt (a + (n - (i + 1))) A0
      refine z_ixD (dp_le x12.le0 _ _ hnv) (Le.refl _) (j := (a + (n - (i + 1))) % h.needs.length) em (need_dat hlt) fun b hb' => ?_
      obtain rfl := dp_int hb'
      refine ⟨_, _, rfl, rfl, _, _, rfl, rfl, fun r' l' => step r' ?_⟩
      have e1 : n - i = n - (i + 1) + 1 := by omega
      rw [e1]
      exact Hill.late_step hb l'
    · obtain ⟨cur, u7, rfl, rfl, step⟩ := hP
      refine ⟨_, rfl, q cur _ (step cur ?_) x12⟩
      rw [show n - (n : Int).toNat = 0 by omega]
      exact Hill.late_zero
end
end Z28
set_option Elab.async false
set_option linter.all false
set_option maxRecDepth 100000
set_option maxHeartbeats 4000000
namespace Hz
open PySem PySem.Spec PyProof.Rows L2
/-! ### comprehensions whose values are told outright: nothing changes -/
section
variable {K : PySem.W.Frag} {g : TG} {tt : TT} {te : TE} {vs : List Nat} {σ : L2.St} {H : Hp}
/-- what has been made behind i items -/
abbrev LcF (H1 : Hp) (D : Addr) (p : Nat → Bool) (f : Nat → V) (i : Nat) (H' : Hp) : Prop := Ex [] H1 H' ∧ H' D = some (.lst (((List.range i).filter p).map f))
theorem lcF_next {H1 : Hp} {D : Addr} {p : Nat → Bool} {f : Nat → V} {i : Nat} {H' : Hp} (hD : H1 D = none) (hi : i < 100000) (P : LcF H1 D p f i H') {x : V} (turn : ∀ (N : VK) (M : Hp → Prop), (p i = true → ∀ H3, Ex [] H' H3 → N (f i) H3) → (p i = false → ∀ H3, Ex [] H' H3 → M H3) →
      g x (wipe σ vs) H' fun σ2 H2 => wipe σ2 vs = wipe σ vs ∧ tt σ2 H2 fun b H3 => if b = true then te σ2 H3 N else M H3) :
    g x (wipe σ vs) H' fun σ2 H2 => wipe σ2 vs = wipe σ vs ∧ tt σ2 H2 fun b H3 => if b = true then te σ2 H3 fun y H4 => ∃ acc, H4 D = some (.lst acc) ∧ acc.length < sizeLine ∧ LcF H1 D p f (i + 1) (upd H4 D (.lst (acc ++ [y]))) else LcF H1 D p f (i + 1) H3 := by
  obtain ⟨e1, hz⟩ := P
  have hlen : (((List.range i).filter p).map f).length ≤ i := by
    rw [List.length_map]
    have := List.length_filter_le p (List.range i)
    rwa [List.length_range] at this
  refine turn _ _ (fun pi H3 x3 => ⟨_, x3.1 _ _ (by simp) hz, sz_lt (by omega), (e1.trans x3).mutNew' hD, ?_⟩) (fun pi H3 x3 => ⟨e1.trans x3, ?_⟩)
  · rw [upd_same, List.range_succ, List.filter_append, List.map_append, List.filter_cons_of_pos pi, List.filter_nil]; rfl
  · rw [List.range_succ, List.filter_append, List.map_append, List.filter_cons_of_neg (by rw [pi]; decide), List.filter_nil, List.map_nil, List.append_nil]
    exact x3.1 _ _ (by simp) hz
/-- over a list or a tuple -/
theorem z_lcP {t : Bool} {xs : List V} {tl : TE} {Q : VK} (htl : ∀ R : VK, (∀ a H1, Ex [] H H1 → SqX t K H1 a xs → R (.ref a) H1) → tl σ H R) (hn : xs.length < 100000) (p : Nat → Bool) (f : Nat → V)
    (turn : ∀ (i : Nat) x H', xs[i]? = some x → Ex [] H H' → ∀ (N : VK) (M : Hp → Prop), (p i = true → ∀ H3, Ex [] H' H3 → N (f i) H3) → (p i = false → ∀ H3, Ex [] H' H3 → M H3) →
      g x (wipe σ vs) H' fun σ2 H2 => wipe σ2 vs = wipe σ vs ∧ tt σ2 H2 fun b H3 => if b = true then te σ2 H3 N else M H3)
    (fin : ∀ D H', H D = none → H' D = some (.lst (((List.range xs.length).filter p).map f)) → Ex [] H H' → Q (.ref D) H') : tLc (fun σ H R => iList K tl σ H R ∨ iTup K tl σ H R) g tt te vs σ H Q := by
  have lt : ∀ {i : Nat} {x : V}, xs[i]? = some x → i < xs.length := fun h => by
    obtain ⟨h, _⟩ := List.getElem?_eq_some_iff.mp h
    exact h
  have step : ∀ H1, Ex [] H H1 → ∀ D, H1 D = none → ∀ i x H', xs[i]? = some x → LcF H1 D p f i H' → _ := fun H1 x1 D hD i x H' hx P => lcF_next (g := g) (tt := tt) (te := te) (vs := vs) (σ := σ) hD (by have := lt hx; omega) P (x := x) (turn i x H' hx (x1.trans P.1))
  cases t with
  | false => exact .inl (htl _ fun a H1 x1 hS => ⟨a, rfl, ⟨xs, hS⟩, fun D hD => lc_list (LcF H1 D p f) ⟨Ex.new hD, upd_same⟩ (fun i H' _ P => le_l P.1.le0 hS) (fun i x H' hx P => step H1 x1 D hD i x H' hx P) (fun H' P => fin D H' (x1.free hD) P.2 (x1.trans P.1))⟩)
  | true => exact .inr (htl _ fun a H1 x1 hS => ⟨a, rfl, ⟨xs, hS⟩, fun D hD => lc_tup (LcF H1 D p f) ⟨Ex.new hD, upd_same⟩ (fun i H' _ P => le_t P.1.le0 hS) (fun i x H' hx P => step H1 x1 D hD i x H' hx P) (fun H' P => fin D H' (x1.free hD) P.2 (x1.trans P.1))⟩)
theorem filter_yes {n : Nat} {f : Nat → V} : ((List.range n).filter fun _ => true).map f = (List.range n).map f := by
  rw [List.filter_eq_self.mpr (fun _ _ => rfl)]
/-- .. without a test -/
theorem z_lcP1 {t : Bool} {xs : List V} {tl : TE} {Q : VK} (htl : ∀ R : VK, (∀ a H1, Ex [] H H1 → SqX t K H1 a xs → R (.ref a) H1) → tl σ H R) (hn : xs.length < 100000) (f : Nat → V)
    (turn : ∀ (i : Nat) x H', xs[i]? = some x → Ex [] H H' → ∀ (N : VK), (∀ H3, Ex [] H' H3 → N (f i) H3) → g x (wipe σ vs) H' fun σ2 H2 => wipe σ2 vs = wipe σ vs ∧ te σ2 H2 N)
    (fin : ∀ D H', H D = none → H' D = some (.lst ((List.range xs.length).map f)) → Ex [] H H' → Q (.ref D) H') : tLc (fun σ H R => iList K tl σ H R ∨ iTup K tl σ H R) g tYes te vs σ H Q :=
  z_lcP (t := t) htl hn (fun _ => true) f (fun i x H' hx e N M hN _ => by
    have := turn i x H' hx e N (hN rfl)
    simpa only [tYes, if_true, eq_self] using this) (fun D H' hD hz e => fin D H' hD (by rw [hz, filter_yes]) e)
/-- over a list, with a test -/
theorem z_lcLP {xs : List V} {tl : TE} {Q : VK} (htl : ∀ R : VK, (∀ a H1, Ex [] H H1 → SqL K H1 a xs → R (.ref a) H1) → tl σ H R) (hn : xs.length < 100000) (p : Nat → Bool) (f : Nat → V)
    (turn : ∀ (i : Nat) x H', xs[i]? = some x → Ex [] H H' → ∀ (N : VK) (M : Hp → Prop), (p i = true → ∀ H3, Ex [] H' H3 → N (f i) H3) → (p i = false → ∀ H3, Ex [] H' H3 → M H3) →
      g x (wipe σ vs) H' fun σ2 H2 => wipe σ2 vs = wipe σ vs ∧ tt σ2 H2 fun b H3 => if b = true then te σ2 H3 N else M H3)
    (fin : ∀ D H', H D = none → H' D = some (.lst (((List.range xs.length).filter p).map f)) → Ex [] H H' → Q (.ref D) H') : tLc (iList K tl) g tt te vs σ H Q := by
  have lt : ∀ {i : Nat} {x : V}, xs[i]? = some x → i < xs.length := fun h => by
    obtain ⟨h, _⟩ := List.getElem?_eq_some_iff.mp h
    exact h
  refine htl _ fun a H1 x1 hS => ⟨a, rfl, ⟨xs, hS⟩, fun D hD => lc_list (LcF H1 D p f) ⟨Ex.new hD, upd_same⟩ (fun i H' _ P => le_l P.1.le0 hS) (fun i x H' hx P => ?_) (fun H' P => fin D H' (x1.free hD) P.2 (x1.trans P.1))⟩
  exact lcF_next (g := g) (tt := tt) (te := te) (vs := vs) (σ := σ) hD (by have := lt hx; omega) P (x := x) (turn i x H' hx (x1.trans P.1))
/-- .. over a list -/
theorem z_lcL1 {xs : List V} {tl : TE} {Q : VK} (htl : ∀ R : VK, (∀ a H1, Ex [] H H1 → SqL K H1 a xs → R (.ref a) H1) → tl σ H R) (hn : xs.length < 100000) (f : Nat → V)
    (turn : ∀ (i : Nat) x H', xs[i]? = some x → Ex [] H H' → ∀ (N : VK), (∀ H3, Ex [] H' H3 → N (f i) H3) → g x (wipe σ vs) H' fun σ2 H2 => wipe σ2 vs = wipe σ vs ∧ te σ2 H2 N)
    (fin : ∀ D H', H D = none → H' D = some (.lst ((List.range xs.length).map f)) → Ex [] H H' → Q (.ref D) H') : tLc (iList K tl) g tYes te vs σ H Q := by
  have lt : ∀ {i : Nat} {x : V}, xs[i]? = some x → i < xs.length := fun h => by
    obtain ⟨h, _⟩ := List.getElem?_eq_some_iff.mp h
    exact h
  refine htl _ fun a H1 x1 hS => ⟨a, rfl, ⟨xs, hS⟩, fun D hD => lc_list (LcF H1 D (fun _ => true) f) ⟨Ex.new hD, upd_same⟩ (fun i H' _ P => le_l P.1.le0 hS) (fun i x H' hx P => ?_) (fun H' P => fin D H' (x1.free hD) (by rw [P.2, filter_yes]) (x1.trans P.1))⟩
  refine lcF_next (g := g) (tt := tYes) (te := te) (vs := vs) (σ := σ) hD (by have := lt hx; omega) P (x := x) fun N M hN _ => ?_
  have := turn i x H' hx (x1.trans P.1) N (hN rfl)
  simpa only [tYes, if_true, eq_self] using this
/-- over range -/
theorem z_lcN {n : Nat} {lo : Int} {Q : VK} {wi : TI} (hwi : ∀ R : It → Hp → Prop, (∀ H1, Ex [] H H1 → R (Itr lo n) H1) → wi σ H R) (hn : n < 100000) (f : Nat → V)
    (turn : ∀ (i : Nat) H', i < n → Ex [] H H' → ∀ (N : VK), (∀ H3, Ex [] H' H3 → N (f i) H3) → g (.int (lo + i)) (wipe σ vs) H' fun σ2 H2 => wipe σ2 vs = wipe σ vs ∧ te σ2 H2 N)
    (fin : ∀ D H', H D = none → H' D = some (.lst ((List.range n).map f)) → Ex [] H H' → Q (.ref D) H') : tLc wi g tYes te vs σ H Q :=
  z_lcRF hwi hn (fun _ => true) f (fun H1 x1 i hi D H' hD e nD N M hN _ => by
    have := turn i H' hi (x1.trans e) N (hN rfl)
    simpa only [tYes, if_true, eq_self] using this) (fun H1 x1 D H' hD hz e => fin D H' (x1.free hD) (by rw [hz, filter_yes]) (x1.trans e))
/-- over zip of two lists (two tuples), not always of one length -/
theorem z_lcZN {t : Bool} {xs ys : List V} {n : Nat} {ta : TA} {Q : VK} (hx : n ≤ xs.length) (hy : n ≤ ys.length) (hxy : xs.length = n ∨ ys.length = n) (hn : n < 100000) (hta : ∀ R : List V → Hp → Prop, (∀ a b H1, Ex [] H H1 → SqX t K H1 a xs → SqX t K H1 b ys → R [.ref a, .ref b] H1) → ta σ H R) (f : Nat → V)
    (turn : ∀ (i : Nat) x y T H', xs[i]? = some x → ys[i]? = some y → Ex [] H H' → H' T = some (.tup [x, y]) → ∀ (N : VK), (∀ H3, Ex [] H' H3 → N (f i) H3) → g (.ref T) (wipe σ vs) H' fun σ2 H2 => wipe σ2 vs = wipe σ vs ∧ te σ2 H2 N)
    (fin : ∀ D H', H D = none → H' D = some (.lst ((List.range n).map f)) → Ex [] H H' → Q (.ref D) H') : tLc (RZ.iZipA K ta) g tYes te vs σ H Q := by
  refine hta _ fun a b H1 x1 qx qy => ?_
  have core : ∀ (J0 : It), (∀ i H', i < n → Ex [] H1 H' → J0.go i H') → (∀ H', Ex [] H1 H' → J0.stop n H') →
      (∀ i H' v H'', Ex [] H1 H' → J0.yld i H' v H'' → ∃ T x y, v = .ref T ∧ H' T = none ∧ H'' = upd H' T (.tup [x, y]) ∧ xs[i]? = some x ∧ ys[i]? = some y) →
      ∀ D, H1 D = none → ∃ W : Nat → Nat → Hp → Prop, (∃ m, W 0 m (upd H1 D (.lst []))) ∧ ∀ i m H, W i m H →
      ((J0.stop i H ∧ Q (.ref D) H) ∨ (J0.go i H ∧ ∃ Nx : Hp → Prop, (∀ H', Nx H' → ∃ m', m' < m ∧ W (i + 1) m' H') ∧ ∀ x H', J0.yld i H x H' → g x (wipe σ vs) H' fun σ2 H2 => wipe σ2 vs = wipe σ vs ∧ tYes σ2 H2 fun b H3 =>
        if b = true then te σ2 H3 fun y H4 => ∃ acc, H4 D = some (.lst acc) ∧ acc.length < sizeLine ∧ Nx (upd H4 D (.lst (acc ++ [y]))) else Nx H3)) := fun J0 hgo hstop hyld D hD => by
    refine ⟨fun i m H' => m = n - i ∧ i ≤ n ∧ LcF H1 D (fun _ => true) f i H', ⟨n, rfl, Nat.zero_le _, Ex.new hD, upd_same⟩, ?_⟩
    rintro i m H' ⟨rfl, hi, p⟩
    by_cases hlt : i < n
    · refine .inr ⟨hgo i H' hlt p.1, fun H'' => LcF H1 D (fun _ => true) f (i + 1) H'', fun H'' p' => ⟨n - (i + 1), by omega, rfl, hlt, p'⟩, fun v H'' yl => ?_⟩
      obtain ⟨T, x, y, rfl, hT, rfl, ex, ey⟩ := hyld i H' v H'' p.1 yl
      have xT : Ex [] H' (upd H' T (.tup [x, y])) := Ex.new hT
      have pT : LcF H1 D (fun _ => true) f i (upd H' T (.tup [x, y])) := ⟨p.1.trans xT, xT.1 _ _ (by simp) p.2⟩
      exact lcF_next hD (by omega) pT (x := .ref T) fun N M hN _ => by
        have := turn i x y T _ ex ey (x1.trans pT.1) upd_same N (hN rfl)
        simpa only [tYes, if_true, eq_self] using this
    · have e : i = n := by omega
      subst e
      exact .inl ⟨hstop H' p.1, fin D H' (x1.free hD) (by rw [p.2, filter_yes]) (x1.trans p.1)⟩
  cases t with
  | false =>
    have qx' : ∀ H', Ex [] H1 H' → SqL K H' a xs := fun H' e => le_l e.le0 qx
    have qy' : ∀ H', Ex [] H1 H' → SqL K H' b ys := fun H' e => le_l e.le0 qy
    refine ⟨a, b, xs, ys, rfl, .inl ⟨qx, qy, core (Itz K a b) (fun i H' hi e => ?_) (fun H' e => ?_) (fun i H' v H'' e yl => ?_)⟩⟩
    · exact ⟨xs, ys, _, _, qx' H' e, qy' H' e, List.getElem?_eq_getElem (by omega), List.getElem?_eq_getElem (by omega)⟩
    · exact ⟨xs, ys, qx' H' e, qy' H' e, by omega⟩
    · obtain ⟨T, x, y, rfl, hT, rfl, f1, f2⟩ := yl
      exact ⟨T, x, y, rfl, hT, rfl, f1 xs (qx' H' e), f2 ys (qy' H' e)⟩
  | true =>
    have qx' : ∀ H', Ex [] H1 H' → SqT K H' a xs := fun H' e => le_t e.le0 qx
    have qy' : ∀ H', Ex [] H1 H' → SqT K H' b ys := fun H' e => le_t e.le0 qy
    refine ⟨a, b, xs, ys, rfl, .inr ⟨qx, qy, core (RZ.ItzT K a b) (fun i H' hi e => ?_) (fun H' e => ?_) (fun i H' v H'' e yl => ?_)⟩⟩
    · exact ⟨xs, ys, _, _, qx' H' e, qy' H' e, List.getElem?_eq_getElem (by omega), List.getElem?_eq_getElem (by omega)⟩
    · exact ⟨xs, ys, qx' H' e, qy' H' e, by omega⟩
    · obtain ⟨T, x, y, rfl, hT, rfl, f1, f2⟩ := yl
      exact ⟨T, x, y, rfl, hT, rfl, f1 xs (qx' H' e), f2 ys (qy' H' e)⟩
end
theorem atI_end {xs : List V} {n : Nat} {v : V} (hl : xs.length = n + 1) (h : xs[n]? = some v) : atI xs (-1) = some v := by
  have e : xs = xs.take n ++ [v] := by
    have := List.take_append_drop n xs
    have d : xs.drop n = [v] := by
      have hn : n < xs.length := by omega
      rw [List.drop_eq_getElem_cons hn, List.drop_eq_nil_of_le (by omega)]
      rw [List.getElem?_eq_getElem hn] at h
      rw [Option.some.inj h]
    rw [d] at this
    exact this.symm
  rw [e]
  exact atI_last _ _
theorem cut_tail (xs : List V) (n : Nat) : cutV xs (some (n : Int)) none = xs.drop n := by
  unfold cutV
  rw [HT.sIx_nat, HT.sIx_none]
  by_cases h2 : n ≤ xs.length
  · rw [Nat.min_eq_left h2, List.take_of_length_le]
    rw [List.length_drop]
    omega
  · rw [Nat.min_eq_right (by omega), Nat.sub_self, List.take_zero, List.drop_eq_nil_of_le (by omega)]
section
variable {K : PySem.W.Frag}
/-- tuple + tuple -/
theorem z_catT {H : Hp} {a b : Addr} {xs ys : List V} {Q : VK} (ha : SqT K H a xs) (hb : SqT K H b ys) (hl : xs.length + ys.length ≤ sizeLine) (q : ∀ p H', Ex [] H H' → SqT K H' p (xs ++ ys) → Q (.ref p) H') : rCatA K (.ref a) (.ref b) H Q := by
  refine ⟨a, b, xs, ys, rfl, rfl, ha, hb, hl, fun e => ?_, fun _ e => ?_, fun _ _ p hp => ?_⟩
  · subst e
    exact q b H (Ex.refl _ _) hb
  · subst e
    exact q a H (Ex.refl _ _) (by rwa [List.append_nil])
  · exact q p _ (Ex.new hp) (SqT.of upd_same)
theorem dpt_ints {ns : List Int} (N : Nat) (h : ns.length ≤ 1000) : dpt (N + 1) (.list (ns.map PyData.int)) := ⟨by rw [List.length_map]; exact h, fun d hd => by
  obtain ⟨i, _, rfl⟩ := List.mem_map.mp hd
  cases N <;> trivial⟩
/-- a list of ints as data -/
theorem dp_il {G : Hp} {p : Addr} {ns : List Int} (e : G p = some (.lst (ns.map V.int))) : Dp K G (.ref p) (.list (ns.map PyData.int)) := .lst (SqL.of e) (dpa_of_ints _)
/-- [i] * n -/
theorem z_repI {H : Hp} {l : Addr} {i : Int} {n : Nat} {Q : VK} (h : H l = some (.lst [.int i])) (hn : n ≤ 1000) (q : ∀ p, H p = none → Q (.ref p) (upd H p (.lst ((List.replicate n i).map V.int)))) : rRep (.ref l) (.int n) H Q := by
  refine ⟨l, n, _, rfl, rfl, h, by omega, by omega, ?_, fun p hp => ?_⟩
  · exact sz_of (by rw [List.length_singleton]; omega)
  · have e : (List.replicate (Int.toNat n) [V.int i]).flatten = (List.replicate n i).map V.int := by
      rw [List.flatten_replicate_singleton, List.map_replicate]
      rfl
    rw [e]
    exact q p hp
end
section
variable {K : PySem.W.Frag} {g : TG} {tt : TT} {te : TE} {vs : List Nat} {σ : L2.St} {H : Hp} {Q : VK}
/-- a comprehension over what is told: what tells it goes ahead -/
theorem lc_bindL {tl : TE} (h : tl σ H fun x H1 => tLc (iList K (tC x)) g tt te vs σ H1 Q) : tLc (fun σ H R => iList K tl σ H R ∨ iTup K tl σ H R) g tt te vs σ H Q := .inl h
theorem zip_bind {t1 t2 : TE} (h : t1 σ H fun x H1 => t2 σ H1 fun y H2 => tLc (RZ.iZipA K (tCons (tC x) (tCons (tC y) tNil))) g tt te vs σ H2 Q) : tLc (RZ.iZipA K (tCons t1 (tCons t2 tNil))) g tt te vs σ H Q := h
end
/-- what is told of each item of a list -/
theorem map_at {α : Type} (l : List α) (f : α → V) : (List.range l.length).map (fun i => ((l[i]?).map f).getD .non) = l.map f := by
  refine List.ext_getElem (by simp) fun i h1 h2 => ?_
  rw [List.getElem_map, List.getElem_map, List.getElem_range]
  rw [List.length_map] at h2
  rw [List.getElem?_eq_getElem h2]
  rfl
theorem eqv_int_lists (t : Bool) : ∀ (a b : List Int), PyData.eqv (sq t (a.map PyData.int)) (sq t (b.map PyData.int)) = decide (a = b) := by
  have key : ∀ a b : List Int, PyData.eqvAll (a.map PyData.int) (b.map PyData.int) = decide (a = b) := by
    intro a
    induction a with
    | nil => intro b; cases b <;> simp [PyData.eqvAll]
    | cons n a ih =>
      intro b
      cases b with
      | nil => simp [PyData.eqvAll]
      | cons m b =>
        simp only [List.map_cons, PyData.eqvAll, PyData.eqv, ih, List.cons.injEq]
        by_cases c : n = m <;> by_cases e : a = b <;> simp [c, e]
  intro a b
  cases t
  · show PyData.eqv (.list _) (.list _) = _
    simp only [PyData.eqv, key]
  · show PyData.eqv (.tuple _) (.tuple _) = _
    simp only [PyData.eqv, key]
section
variable {c : TT} {t u rest : TS} {D : Ends} {σ : L2.St} {H : Hp}
theorem seq_asg {e : TE} {g : TG} (h : e σ H fun v H1 => g v σ H1 (rest D)) : tSeq (tAsg e g) rest D σ H := h
theorem seq_for {w : TE} {K : PySem.W.Frag} {g : TG} {tb : TS} (h : ∀ D' : Ends, D' = { D with nx := rest D } → w σ H fun x H1 => ∃ a, x = .ref a ∧ (∃ xs, SqL K H1 a xs) ∧ ∃ W : Nat → Nat → L2.St → Hp → Prop, (∃ m, W 0 m σ H1) ∧ ∀ i m σ H, W i m σ H → ((Itl K a).stop i H ∧ D'.nx σ H) ∨ ((Itl K a).go i H ∧ ∃ N : L2.St → Hp → Prop, (∀ σ' H', N σ' H' → ∃ m', m' < m ∧ W (i + 1) m' σ' H') ∧ ∀ x H', (Itl K a).yld i H x H' → g x σ H' fun σ2 H2 => tb { D' with nx := N, ct := N, bk := D'.nx } σ2 H2)) : tSeq (tFor (iList K w) g tb) rest D σ H := h _ rfl
theorem if_any {K : PySem.W.Frag} {ta : TE} {t u : TS} (h : ta σ H fun x H1 => rAny K [x] H1 fun y H2 => ∃ k, y = .bl k ∧ if k = true then t D σ H2 else u D σ H2) : tIfS (tB (tCB (rAny K) (tCons ta tNil))) t u D σ H := h
theorem asg_join {e : TE} {g : TG} (P : V → Hp → Prop) (h1 : ∀ Q' : VK, (∀ v G, P v G → Q' v G) → e σ H Q') (h2 : ∀ v G, P v G → g v σ G (rest D)) : tSeq (tAsg e g) rest D σ H := h1 _ h2
/-- behind an if both ways go on alike -/
theorem seq_join (P : L2.St → Hp → Prop) (h1 : ∀ N : L2.St → Hp → Prop, (∀ σ' H', P σ' H' → N σ' H') → tIfS c t u { D with nx := N } σ H) (h2 : ∀ σ' H', P σ' H' → rest D σ' H') : tSeq (tIfS c t u) rest D σ H := h1 _ h2
end
end Hz
set_option Elab.async false
set_option linter.all false
set_option maxRecDepth 100000
set_option maxHeartbeats 8000000
namespace Z28
open PySem PySem.Spec PyProof.Rows L2 Hz
section
variable {P : Program} {w : World} {K : PySem.W.Frag} {mg : Str → Option Value} {base : Heap}
local macro_rules | `(tactic| walk_at "un") => `(tactic| try dsimp only [tSeq, tIfS, tRet, tAsg, tDrop, tOr, tAnd, tNot, tAndV, tOrV, tNotV, tTest, tB, tOp, tUn, tCB, tCons, tNil, tC, tNext, tIf, tChain, gName, tPar, tPar3, tTup, tLst])
theorem dpt_dat {h : Hill} (hk : HillOk h) (t : Bool) : dpt 3 (h.dat t) := by
  have h1 := hk.y2
  have h2 := hk.n2
  have day : ∀ d : Int × Bool, dpt 1 (sq t [.int d.1, .bool d.2]) := fun d => by
    cases t <;> refine ⟨by show 2 ≤ 1000; decide, fun e he => ?_⟩ <;> simp only [List.mem_cons, List.not_mem_nil, or_false] at he <;> rcases he with rfl | rfl <;> trivial
  have y : dpt 2 (sq t (h.year.map fun d => sq t [.int d.1, .bool d.2])) := by
    cases t <;> refine ⟨by rw [List.length_map]; omega, fun e he => ?_⟩ <;> obtain ⟨d, _, rfl⟩ := List.mem_map.mp he <;> exact day d
  have n : dpt 2 (sq t (h.needs.map PyData.int)) := by
    cases t <;> refine ⟨by rw [List.length_map]; omega, fun e he => ?_⟩ <;> obtain ⟨d, _, rfl⟩ := List.mem_map.mp he <;> trivial
  cases t <;> refine ⟨by show 3 ≤ 1000; decide, fun e he => ?_⟩ <;> simp only [List.mem_cons, List.not_mem_nil, or_false] at he <;> rcases he with rfl | rfl | rfl
  · exact y
  · exact n
  · trivial
  · exact y
  · exact n
  · trivial
theorem listed_dat (h : Hill) : listed (h.dat true) = h.dat false := by
  have e1 : ∀ ds, listed (.tuple ds) = .list (ds.map listed) := fun ds => by rw [← listedAll_map]; rfl
  show listed (.tuple _) = .list _
  rw [e1]
  congr 1
  show [listed (.tuple _), listed (.tuple _), listed (.int _)] = [PyData.list _, PyData.list _, PyData.int _]
  rw [e1, e1, List.map_map, List.map_map]
  congr 2
theorem dpt_now (s : Now) (t : Bool) (N : Nat) : dpt (N + 1) (s.dat t) := by
  cases t <;> refine ⟨by show 3 ≤ 1000; decide, fun e he => ?_⟩ <;> simp only [List.mem_cons, List.not_mem_nil, or_false] at he <;> rcases he with rfl | rfl | rfl <;> cases N <;> trivial
end
end Z28
set_option Elab.async false
set_option linter.all false
namespace Hz
open PySem PyProof.Rows L2
theorem lay_ints : ∀ ns : List Int, PyData.canLayAll0 (ns.map PyData.int) = true ∧ PyData.depthAll (ns.map PyData.int) = 0
  | [] => ⟨by simp [PyData.canLayAll0], by simp [PyData.depthAll]⟩
  | n :: ns => by
    obtain ⟨a, b⟩ := lay_ints ns
    exact ⟨by simp [PyData.canLayAll0, PyData.canLay0, a], by simp [PyData.depthAll, PyData.depth, b]⟩
theorem shaped_ints (t : Bool) (ns : List Int) : SeqAt.shaped (sq t (ns.map PyData.int)) = true := by
  obtain ⟨a, b⟩ := lay_ints ns
  cases t
  · show SeqAt.shaped (.list _) = true
    unfold SeqAt.shaped
    simp [PyData.canLay0, PyData.depth, a, b]
  · show SeqAt.shaped (.tuple _) = true
    unfold SeqAt.shaped
    simp [PyData.canLay0, PyData.depth, a, b]
theorem shaped_nil (t : Bool) : SeqAt.shaped (sq t []) = true := shaped_ints t []
theorem eqv_nil (ds : List PyData) : PyData.eqv (.list ds) (.list []) = decide (ds.length = 0) := by
  cases ds <;> rfl
theorem eqv_ints (t : Bool) (ns : List Int) : PyData.eqv (sq t (ns.map PyData.int)) (sq t (ns.map PyData.int)) = true := by
  have key : ∀ ns : List Int, PyData.eqvAll (ns.map PyData.int) (ns.map PyData.int) = true := by
    intro ns
    induction ns with
    | nil => simp [PyData.eqvAll]
    | cons n ns ih => simp [PyData.eqvAll, PyData.eqv, ih]
  cases t
  · show PyData.eqv (.list _) (.list _) = true
    simp [PyData.eqv, key]
  · show PyData.eqv (.tuple _) (.tuple _) = true
    simp [PyData.eqv, key]
abbrev duoD (p : Int × Int) : PyData := sq true [.int p.1, .int p.2]
theorem shaped_pairs (ps : List (Int × Int)) : SeqAt.shaped (.list (ps.map duoD)) = true := by
  have key : ∀ ps : List (Int × Int), PyData.canLayAll0 (ps.map duoD) = true ∧ PyData.depthAll (ps.map duoD) ≤ 1 := by
    intro ps
    induction ps with
    | nil => exact ⟨by simp [PyData.canLayAll0], by simp [PyData.depthAll]⟩
    | cons p ps ih =>
      obtain ⟨a, b⟩ := ih
      refine ⟨?_, ?_⟩
      · show PyData.canLayAll0 (.tuple [.int p.1, .int p.2] :: ps.map duoD) = true
        simp [PyData.canLayAll0, PyData.canLay0, a]
      · show PyData.depthAll (.tuple [.int p.1, .int p.2] :: ps.map duoD) ≤ 1
        simp only [PyData.depthAll, PyData.depth]
        omega
  obtain ⟨a, b⟩ := key ps
  unfold SeqAt.shaped
  rw [show PyData.canLay0 (.list (ps.map duoD)) = true by simp only [PyData.canLay0]; exact a, decide_eq_true (show PyData.depth (.list (ps.map duoD)) ≤ 64 by simp only [PyData.depth]; omega)]
  rfl
theorem eqv_pairs (ps : List (Int × Int)) : PyData.eqv (.list (ps.map duoD)) (.list (ps.map duoD)) = true := by
  have key : ∀ ps : List (Int × Int), PyData.eqvAll (ps.map duoD) (ps.map duoD) = true := by
    intro ps
    induction ps with
    | nil => simp [PyData.eqvAll]
    | cons p ps ih =>
      show PyData.eqvAll (.tuple [.int p.1, .int p.2] :: ps.map duoD) (.tuple [.int p.1, .int p.2] :: ps.map duoD) = true
      simp [PyData.eqvAll, PyData.eqv, ih]
  show PyData.eqv (.list _) (.list _) = true
  simp [PyData.eqv, key]
end Hz
set_option Elab.async false
set_option linter.all false
namespace Hz
namespace Hill
/-- the last open day up to that one -/
def Until (h : Hill) (n m : Nat) : Prop := m ≤ n ∧ h.isOpen m = true ∧ ∀ k, m < k → k ≤ n → h.isOpen k = false
theorem until_uniq {h : Hill} {n a b : Nat} (x : h.Until n a) (y : h.Until n b) : a = b := by
  rcases Nat.lt_trichotomy a b with c | c | c
  · have := x.2.2 b c y.1; rw [y.2.1] at this; cases this
  · exact c
  · have := y.2.2 a c x.1; rw [x.2.1] at this; cases this
theorem until_ge {h : Hill} {n m d : Nat} (x : h.Until n m) (l : d ≤ n) (o : h.isOpen d = true) : d ≤ m := by
  refine Nat.not_lt.mp fun c => ?_
  have := x.2.2 d c l
  rw [o] at this
  cases this
theorem until_ex {h : Hill} {d : Nat} (o : h.isOpen d = true) : ∀ n, d ≤ n → ∃ m, h.Until n m
  | 0, l => ⟨0, Nat.le_refl _, by rw [show (0 : Nat) = d by omega]; exact o, fun k a b => by omega⟩
  | n + 1, l => by
    cases c : h.isOpen (n + 1) with
    | true => exact ⟨n + 1, Nat.le_refl _, c, fun k a b => by omega⟩
    | false =>
      have dn : d ≤ n := by
        rcases Nat.lt_or_eq_of_le l with z | z
        · omega
        · rw [z, c] at o; cases o
      obtain ⟨m, m1, m2, m3⟩ := until_ex o n dn
      refine ⟨m, by omega, m2, fun k a b => ?_⟩
      by_cases e : k = n + 1
      · rw [e]; exact c
      · exact m3 k a (by omega)
theorem until_self {h : Hill} {n : Nat} (o : h.isOpen n = true) : h.Until n n := ⟨Nat.le_refl _, o, fun k a b => by omega⟩
section
variable {h : Hill} (hL : 0 < h.L) (hN : h.Nn) (ho : ∃ d, d ∈ h.year ∧ d.2 = true) (hd : 0 < h.drops)
include hL hN ho hd
theorem led_rise {a : Nat} (hn : ∀ m ∈ h.needs, 0 ≤ m) {x : Int} : ∀ n, h.ledN a x n ≤ h.ledN a x (n + 1) := fun n => by
  have l0 := lostZ_nn hL hN ho hd (h.ledN a x n + h.need ((a + n) % h.needs.length))
  have n0 : 0 ≤ h.need ((a + n) % h.needs.length) := by
    unfold need
    cases q : h.needs[(a + n) % h.needs.length]? with
    | none => exact Int.le_refl _
    | some v => exact hn v (List.mem_of_getElem? q)
  show h.ledN a x n ≤ h.ledZ _ _
  unfold ledZ
  omega
variable (hm : 0 ≤ h.most) (hn : ∀ m ∈ h.needs, 0 ≤ m)
include hm hn
omit hn in
theorem back_ex (y : Int) : ∃ r, h.Back y r := by
  obtain ⟨k, _, _, hk, hlo⟩ := least (P := fun k : Nat => y < y - h.drops + k + 1 + h.lostZ (y - h.drops + k + 1)) (fun _ => Decidable.em _) 0 h.drops.toNat (Nat.zero_le _) (by
    have := lostZ_nn hL hN ho hd (y - h.drops + (h.drops.toNat : Nat) + 1)
    show y < _
    omega)
  refine ⟨y - h.drops + k, back_of hL hN ho hd ?_ hk⟩
  by_cases c : k = 0
  · subst c
    have := lost_lt hL hN hd hm (lostZ_spec hL hN ho hd (y - h.drops + (0 : Nat)))
    show _ ≤ y
    omega
  · have := hlo (k - 1) (Nat.zero_le _) (by omega)
    rw [show y - h.drops + ((k - 1 : Nat) : Int) + 1 = y - h.drops + k by omega] at this
    omega
omit hn in
theorem late_ex (a : Nat) : ∀ (n : Nat) (y : Int), ∃ r, h.Late a n y r
  | 0, y => ⟨y, late_zero⟩
  | n + 1, y => by
    obtain ⟨r, hr⟩ := back_ex hL hN ho hd hm y
    obtain ⟨r', hr'⟩ := late_ex a n (r - h.need ((a + n) % h.needs.length))
    exact ⟨r', late_step hr hr'⟩
/-- the line behind a row -/
theorem last_led {l : List (Now × Int)} {s : Now} (a : h.At s) (x : h.Rows s l) : h.lineZ (lastOf s l) = h.ledN s.ant (h.lineZ s) l.length := by
  rcases List.eq_nil_or_concat l with rfl | ⟨l', r, rfl⟩
  · rfl
  · have e : (l'.concat r)[l'.length]? = some r := by rw [List.concat_eq_append, List.getElem?_append_right (Nat.le_refl _), Nat.sub_self]; rfl
    have := (rows_led hL hN ho hd hm hn a x e).1
    rw [List.concat_eq_append]
    rw [last_snoc, this, List.length_append]
    rfl
theorem line_le {s : Now} (p0 : 0 ≤ s.pot) : h.lineZ s ≤ h.given s.day := by unfold lineZ; omega
/-- a turn is gone by an open evening just where its line is no more than what was given by then -/
theorem day_by {o : Nat} (oo : h.isOpen o = true) : ∀ {l : List (Now × Int)} {s : Now}, h.At s → h.Rows s l → s.day ≤ o → h.lineZ (lastOf s l) ≤ h.given o → (lastOf s l).day ≤ o
  | [], s, _, _, d, _ => d
  | r :: l, s, a, x, d, e => by
    have a1 := turn_at hm a x.1
    refine day_by oo (l := l) (s := r.1) a1 x.2 ?_ e
    have e1 : h.lineZ r.1 ≤ h.given o := by
      have := last_led hL hN ho hd hm hn a1 x.2
      have g := led_ge (a := r.1.ant) hL hN ho hd hn (x := h.lineZ r.1) l.length
      have e' : h.lineZ (lastOf r.1 l) ≤ h.given o := e
      omega
    obtain ⟨m, hm', rfl⟩ := x.1
    have el := eve_line hL hN hn a hm'
    have e2 : h.lineZ (h.goes s m).1 = h.given m - min (h.over s m) h.most := rfl
    show m ≤ o
    by_cases c : h.given m - min (h.over s m) h.most ≤ 0
    · rw [el.1 c]; exact d
    · obtain ⟨k, hk⟩ := dayOf_ex hN hL ho hd (h.given m - min (h.over s m) h.most)
      rw [el.2 k (by omega) hk]
      refine Nat.max_le.mpr ⟨d, Nat.not_lt.mp fun c2 => ?_⟩
      have := hk.2.2 o c2 oo
      omega
theorem by_iff {n o : Nat} {l : List (Now × Int)} {s : Now} (a : h.At s) (x : h.Rows s l) (u : h.Until n o) (d : s.day ≤ n) : (lastOf s l).day ≤ n ↔ h.ledN s.ant (h.lineZ s) l.length ≤ h.given o := by
  have al := rows_at hm a x
  have e := last_led hL hN ho hd hm hn a x
  rw [← e]
  have ds := until_ge u d a.op
  constructor
  · intro l1
    have := until_ge u l1 al.op
    have := given_mono hN hL this
    have := line_le hL hN ho hd hm hn al.p0
    omega
  · intro l1
    have := day_by hL hN ho hd hm hn u.2.1 a x ds l1
    have := u.1
    omega
end
/-- the least pot, given how much it wants to be -/
def potV (h : Hill) (x : Int) : L2.V := if max 0 x ≤ h.most then .int (max 0 x) else .non
end Hill
open PySem PyProof.Rows L2
theorem shaped_rows (l : List (Now × Int)) : SeqAt.shaped (.list (l.map rowD)) = true := by
  have key : ∀ l : List (Now × Int), PyData.canLayAll0 (l.map rowD) = true ∧ PyData.depthAll (l.map rowD) ≤ 2 := by
    intro l
    induction l with
    | nil => exact ⟨by simp [PyData.canLayAll0], by simp [PyData.depthAll]⟩
    | cons p ps ih =>
      obtain ⟨a, b⟩ := ih
      refine ⟨?_, ?_⟩
      · show PyData.canLayAll0 (.tuple [.tuple [.int p.1.day, .int p.1.ant, .int p.1.pot], .int p.2] :: ps.map rowD) = true
        simp [PyData.canLayAll0, PyData.canLay0, a]
      · show PyData.depthAll (.tuple [.tuple [.int p.1.day, .int p.1.ant, .int p.1.pot], .int p.2] :: ps.map rowD) ≤ 2
        simp only [PyData.depthAll, PyData.depth]
        omega
  obtain ⟨a, b⟩ := key l
  unfold SeqAt.shaped
  rw [show PyData.canLay0 (.list (l.map rowD)) = true by simp only [PyData.canLay0]; exact a, decide_eq_true (show PyData.depth (.list (l.map rowD)) ≤ 64 by simp only [PyData.depth]; omega)]
  rfl
end Hz
set_option Elab.async false
set_option linter.all false
set_option maxRecDepth 100000
set_option maxHeartbeats 4000000
namespace Z28
open PySem PySem.Spec PyProof.Rows L2 Hz
section
variable {P : Program} {w : World} {K : PySem.W.Frag} {mg : Str → Option Value} {base : Heap}
local macro_rules | `(tactic| walk_at "un") => `(tactic| try dsimp only [tSeq, tIfS, tRet, tAsg, tDrop, tOr, tAnd, tNot, tAndV, tOrV, tNotV, tTest, tB, tOp, tUn, tCB, tCons, tNil, tC, tNext, tIf, tChain, gName, tPar, tPar3, tTup, tLst])
def spUntil (K : PySem.W.Frag) : Sp := fun vs H Q _ => ∃ (t : Bool) (h : Hill) (v : V) (n d : Nat), vs = [v, .int n] ∧ Dp K H v (h.dat t) ∧ HillOk h ∧ d ≤ n ∧ h.isOpen d = true ∧ ∀ m : Nat, h.Until n m → Q (.int m) H
theorem ok_open_until (T : Txt K mg) : FnOk P w K mg base CX0 1 T.a_open_until T.d_open_until P_open_until (spUntil K) := by
  have nd := sc_open_until.nd
  refine T.F_open_until.ok sc_open_until (fun vs H Q E h => ?_) (fun cdv A outer s H vs Q E hr h => ?_)
  · obtain ⟨t, h, v, n, d, rfl, _⟩ := h
    rfl
  · obtain ⟨t, h, v, n, d, rfl, hD, hk, hd, od, q⟩ := h
    refine ⟨_, (pss_cons (ps_set (i := 2) nd rfl (Or.inl rfl) (pe_ix (ixK K) (pv 0) pe_int (fun _ _ => rfl)))
      (pss_cons (ps_while PassesOwn.never (pt_not (pt_val (pe_ix (ixK K) (pe_ix (ixK K) (pv 2) (pe_op op_mod (pv 1) (pe_callB (lenK K) (by rfl) T.z_len (by decide +kernel) (pa_cons (pv 2) pa_nil))) (fun _ _ => rfl)) pe_int (fun _ _ => rfl)))) (pss_one (ps_aug (i := 1) nd rfl (Or.inl rfl) pe_int ip_sub)))
      (pss_one (ps_ret (pv 1))))), ?_⟩
    have hL0 := hk.L0
    refine ⟨_, rfl, z_ixD hD (Le.refl _) (j := 0) rfl rfl fun u hu => ?_⟩
    obtain ⟨ya, ys, rfl, hyS, hyA⟩ := dp_sq hu
    have ly := dpa_len hyA
    rw [List.length_map] at ly
    have hL : ys.length = h.L := ly
    refine ⟨fun c σ H' => ∃ k : Nat, σ = [some v, some (.int k), some (.ref ya)] ∧ c = k ∧ d ≤ k ∧ k ≤ n ∧ H' = H ∧ ∀ j, k < j → j ≤ n → h.isOpen j = false, ⟨n, n, rfl, rfl, hd, Nat.le_refl _, rfl, fun j a b => by omega⟩, fun c σ H' hw => ?_⟩
    obtain ⟨kk, rfl, ec, k1, k2, rfl, k3⟩ := hw
    refine ⟨_, rfl, _, rfl, _, rfl, _, _, rfl, hyS.sq, ?_⟩
    rw [hL]
    refine ⟨_, _, rfl, rfl, (by show (0 : Int) < _; omega), ?_⟩
    refine z_dayAt hL0 hyS hyA (Le.refl _) fun u hu => ?_
    refine z_ixD hu (Le.refl _) (j := 1) rfl rfl fun b hb => ?_
    have eb := dp_bl hb
    subst eb
    refine ⟨_, rfl, ?_⟩
    by_cases c : h.isOpen kk = true
    · rw [c]
      exact iteF ⟨_, rfl, q _ ⟨k2, c, k3⟩⟩
    · rw [Bool.eq_false_iff.mpr c]
      refine iteT ⟨_, fun _ _ hn => hn, ?_⟩
      have km : kk ≠ d := fun z => c (z ▸ od)
      refine ⟨_, rfl, _, _, rfl, rfl, kk - 1, by omega, kk - 1, ?_, rfl, by omega, by omega, rfl, fun j a b => ?_⟩
      · rw [show ((kk - 1 : Nat) : Int) = (kk : Int) - 1 by omega]; rfl
      · by_cases e : j = kk
        · rw [e]; exact Bool.eq_false_iff.mpr c
        · exact k3 j (by omega) b
def spLeast (K : PySem.W.Frag) : Sp := fun vs H Q _ => ∃ (t : Bool) (h : Hill) (v : V) (d a n e : Nat), vs = [v, .int d, .int a, .int n, .int e] ∧ Dp K H v (h.dat t) ∧ HillOk h ∧ h.isOpen d = true ∧ d ≤ e ∧ n ≤ 1000 ∧ ∀ o R H', h.Until e o → h.Late a n (h.given o) R → Ex [] H H' → Q (h.potV (h.given d - R)) H'
theorem ok_least_pot (T : Txt K mg) : FnOk P w K mg base CX0 6 T.a_least_pot T.d_least_pot P_least_pot (spLeast K) := by
  have nd := sc_least_pot.nd
  have G_latest_line := ok_latest_line (P := P) (w := w) (base := base) T
  have G_given_by := ok_given_by (P := P) (w := w) (base := base) T
  have G_open_until := ok_open_until (P := P) (w := w) (base := base) T
  refine T.F_least_pot.ok sc_least_pot (fun vs H Q E h => ?_) (fun cdv A outer s H vs Q E hr h => ?_)
  · obtain ⟨t, h, v, d, a, n, e, rfl, _⟩ := h
    rfl
  · obtain ⟨t, h, v, d, a, n, e, rfl, hD, hk, od, de, hn, q⟩ := h
    have hr_latest_line := hr
    have hr_given_by := hr.mono (show 2 ≤ 5 by decide)
    have hr_open_until := hr.mono (show 1 ≤ 5 by decide)
    refine ⟨_, (pss_cons (ps_set (i := 5) nd rfl (Or.inl rfl) (pe_call G_latest_line hr_latest_line (by rfl) T.m_latest_line T.k_latest_line T.b_latest_line .nil pass0 (pa_cons (pv 0) (pa_cons (pv 2) (pa_cons (pv 3) (pa_cons (pe_call G_given_by hr_given_by (by rfl) T.m_given_by T.k_given_by T.b_given_by .nil pass0 (pa_cons (pv 0) (pa_cons (pe_call G_open_until hr_open_until (by rfl) T.m_open_until T.k_open_until T.b_open_until .nil pass0 (pa_cons (pv 0) (pa_cons (pv 4) pa_nil))) pa_nil))) pa_nil))))))
      (pss_cons (ps_set (i := 6) nd rfl (Or.inl rfl) (pe_callB (call_max2 rfl) (by rfl) T.z_max (by decide +kernel) (pa_cons pe_int (pa_cons (pe_op op_sub (pe_call G_given_by hr_given_by (by rfl) T.m_given_by T.k_given_by T.b_given_by .nil pass0 (pa_cons (pv 0) (pa_cons (pv 1) pa_nil))) (pv 5)) pa_nil))))
      (pss_one (ps_ret (pe_ifExp (pt_cmpR op_le (pv 6) (pe_ix (ixK K) (pv 0) pe_int (fun _ _ => rfl)) (nomark _)) (pv 6) pe_non))))), ?_⟩
    walk_at "un"
    refine ⟨_, rfl, _, rfl, _, rfl, _, rfl, _, rfl, _, rfl, t, h, v, e, d, rfl, hD, hk, de, od, fun o ho => ?_⟩
    refine ⟨t, h, v, o, rfl, hD, hk, fun r H1 er x1 => ?_⟩
    subst er
    refine ⟨t, h, v, a, n, h.given o, rfl, dp_le x1.le0 _ _ hD, hk, hn, fun R H2 hR x2 => ?_⟩
    walk_at "un"
    refine ⟨_, rfl, _, rfl, t, h, v, d, rfl, dp_le (x1.trans x2).le0 _ _ hD, hk, fun r H3 er x3 => ?_⟩
    subst er
    have x13 := (x1.trans x2).trans x3
    refine ⟨_, rfl, _, _, rfl, rfl, _, _, rfl, ?_⟩
    have em : (if h.given d - R > 0 then h.given d - R else 0) = max 0 (h.given d - R) := by split <;> omega
    rw [em]
    walk_at "un"
    refine ⟨_, rfl, _, rfl, z_ixD (dp_le x13.le0 _ _ hD) (Le.refl _) (j := 2) rfl rfl fun u hu => ?_⟩
    obtain rfl := dp_int hu
    have fin := q o R H3 ho hR x13
    unfold Hill.potV at fin
    refine ⟨_, _, rfl, rfl, _, rfl, ite2 (fun c => ?_) (fun c => ?_)⟩
    · rw [if_pos (of_decide_eq_true c)] at fin
      exact ⟨_, rfl, fin⟩
    · rw [if_neg (of_decide_eq_false (Bool.eq_false_iff.mpr c))] at fin
      exact fin
end
end Z28
set_option Elab.async false
set_option linter.all false
namespace Hz
namespace Hill
/-- each is in its bounds: of the line, of those behind the next turns -/
def InI (h : Hill) : Nat → Int → List (Int × Int) → Prop
  | _, _, [] => True
  | a, x, b :: bs => b.1 < x ∧ x ≤ b.2 ∧ InI h ((a + 1) % h.needs.length) (h.ledZ a x) bs
/-- the bounds of evenings seen -/
def Bs (h : Hill) (base : Int) : Nat → List Nat → List (Int × Int) → Prop
  | _, [], bs => bs = []
  | prev, e :: evs, bs => ∃ ab bs', bs = (ab, h.given e) :: bs' ∧ h.isOpen e = true ∧ (prev < e → ∃ o, h.Until (e - 1) o ∧ ab = h.given o) ∧ (¬ prev < e → ab = base) ∧ Bs h base e evs bs'
def lastE (prev : Nat) : List Nat → Nat
  | [] => prev
  | e :: evs => lastE e evs
theorem lastE_snoc : ∀ {evs : List Nat} {prev e : Nat}, lastE prev (evs ++ [e]) = e
  | [], _, _ => rfl
  | _ :: evs, _, _ => lastE_snoc (evs := evs)
theorem bs_snoc {h : Hill} {base : Int} : ∀ {evs : List Nat} {prev e : Nat} {bs : List (Int × Int)} {ab : Int}, h.Bs base prev evs bs → h.isOpen e = true → (lastE prev evs < e → ∃ o, h.Until (e - 1) o ∧ ab = h.given o) → (¬ lastE prev evs < e → ab = base) →
    h.Bs base prev (evs ++ [e]) (bs ++ [(ab, h.given e)])
  | [], prev, e, bs, ab, x, oe, p, q => by
    obtain rfl : bs = [] := x
    exact ⟨ab, [], rfl, oe, p, q, rfl⟩
  | f :: evs, prev, e, bs, ab, x, oe, p, q => by
    obtain ⟨ab', bs', rfl, o', p', q', x'⟩ := x
    exact ⟨ab', bs' ++ [(ab, h.given e)], rfl, o', p', q', bs_snoc x' oe p q⟩
theorem bs_len {h : Hill} {base : Int} : ∀ {evs : List Nat} {prev : Nat} {bs : List (Int × Int)}, h.Bs base prev evs bs → bs.length = evs.length
  | [], _, bs, x => by obtain rfl : bs = [] := x; rfl
  | e :: evs, _, bs, x => by
    obtain ⟨ab, bs', rfl, _, _, _, x'⟩ := x
    show bs'.length + 1 = evs.length + 1
    rw [bs_len x']
theorem bs_open {h : Hill} {base : Int} : ∀ {evs : List Nat} {prev : Nat} {bs : List (Int × Int)}, h.Bs base prev evs bs → ∀ e ∈ evs, h.isOpen e = true
  | [], _, _, _, _, he => by simp at he
  | f :: evs, _, bs, x, e, he => by
    obtain ⟨ab, bs', rfl, o, _, _, x'⟩ := x
    rcases List.mem_cons.mp he with rfl | he
    · exact o
    · exact bs_open x' e he
/-- each no less than the one ahead -/
def Rise : Nat → List Nat → Prop
  | _, [] => True
  | prev, e :: evs => prev ≤ e ∧ Rise e evs
/-- with this pot turns go on just these evenings -/
def Fits (h : Hill) (s : Now) (evs : List Nat) : Prop := ∀ l, h.Rows s l → l.length = evs.length → l.map (fun r => r.1.day) = evs
theorem fits_iff {h : Hill} {s : Now} {evs : List Nat} {l : List (Now × Int)} (x : h.Rows s l) (e : l.length = evs.length) : h.Fits s evs ↔ l.map (fun r => r.1.day) = evs := by
  constructor
  · intro f; exact f l x e
  · intro m l' x' e'
    rw [rows_uniq x' x (by omega)]
    exact m
section
variable {h : Hill} (hL : 0 < h.L) (hN : h.Nn) (ho : ∃ d, d ∈ h.year ∧ d.2 = true) (hd : 0 < h.drops) (hm : 0 ≤ h.most) (hn : ∀ m ∈ h.needs, 0 ≤ m)
include hL hN ho hd hm hn
theorem turn_by {n o : Nat} {s : Now} {r : Now × Int} (a : h.At s) (t : h.Turn s r) (u : h.Until n o) (d : s.day ≤ n) : r.1.day ≤ n ↔ h.ledZ s.ant (h.lineZ s) ≤ h.given o := by
  have := by_iff hL hN ho hd hm hn (l := [r]) a ⟨t, trivial⟩ u d
  have e : h.ledN s.ant (h.lineZ s) [r].length = h.ledZ s.ant (h.lineZ s) := by
    show h.ledZ ((s.ant + 0) % _) (h.lineZ s) = _
    rw [Nat.add_zero, Nat.mod_eq_of_lt a.an]
  rw [e] at this
  exact this
theorem day_up {s : Now} {r : Now × Int} (t : h.Turn s r) : s.day ≤ r.1.day := by
  obtain ⟨m, ⟨x1, _⟩, rfl⟩ := t
  exact x1
theorem seen_iff {base : Int} : ∀ {evs : List Nat} {l : List (Now × Int)} {s : Now} {bs : List (Int × Int)}, h.At s → h.Rows s l → l.length = evs.length → Rise s.day evs → h.Bs base s.day evs bs → base < h.lineZ s →
    (l.map (fun r => r.1.day) = evs ↔ h.InI ((s.ant + 1) % h.needs.length) (h.ledZ s.ant (h.lineZ s)) bs)
  | [], [], s, bs, _, _, _, _, x, _ => by
    obtain rfl : bs = [] := x
    exact ⟨fun _ => trivial, fun _ => rfl⟩
  | e :: evs, r :: l, s, bs, a, x, el, ri, y, bl => by
    obtain ⟨ab, bs', rfl, oe, p, q, y'⟩ := y
    obtain ⟨e1, e2, e3⟩ := turn_led hL hN ho hd hn a x.1
    have a1 := turn_at hm a x.1
    have up := day_up hL hN ho hd hm hn x.1
    have n0 : 0 ≤ h.need s.ant := by
      unfold need
      cases q : h.needs[s.ant]? with
      | none => exact Int.le_refl _
      | some v => exact hn v (List.mem_of_getElem? q)
    have rise : h.lineZ s ≤ h.ledZ s.ant (h.lineZ s) := by
      have := lostZ_nn hL hN ho hd (h.lineZ s + h.need s.ant)
      unfold ledZ
      omega
    have one : r.1.day = e ↔ (ab < h.ledZ s.ant (h.lineZ s) ∧ h.ledZ s.ant (h.lineZ s) ≤ h.given e) := by
      have b1 := turn_by hL hN ho hd hm hn a x.1 (until_self oe) ri.1
      by_cases c : s.day < e
      · obtain ⟨o, uo, rfl⟩ := p c
        have b2 := turn_by hL hN ho hd hm hn a x.1 uo (by omega)
        constructor
        · intro z
          refine ⟨Int.not_le.mp fun w => ?_, b1.mp (by omega)⟩
          have := b2.mpr w
          omega
        · rintro ⟨z1, z2⟩
          have w1 := b1.mpr z2
          have w2 : ¬ r.1.day ≤ e - 1 := fun w => by have := b2.mp w; omega
          omega
      · have es : s.day = e := by have := ri.1; omega
        have := q c
        constructor
        · intro z
          exact ⟨by omega, b1.mp (by omega)⟩
        · rintro ⟨z1, z2⟩
          have w1 := b1.mpr z2
          omega
    have ih : r.1.day = e → (l.map (fun r => r.1.day) = evs ↔ h.InI ((r.1.ant + 1) % h.needs.length) (h.ledZ r.1.ant (h.lineZ r.1)) bs') := fun z =>
      seen_iff a1 x.2 (by simpa using el) (by rw [z]; exact ri.2) (by rw [z]; exact y') (by rw [e1]; omega)
    show r.1.day :: l.map _ = e :: evs ↔ ab < _ ∧ _ ≤ h.given e ∧ h.InI _ (h.ledZ ((s.ant + 1) % h.needs.length) (h.ledZ s.ant (h.lineZ s))) bs'
    rw [List.cons.injEq]
    rw [e1, e3] at ih
    constructor
    · rintro ⟨z, w⟩
      obtain ⟨o1, o2⟩ := one.mp z
      exact ⟨o1, o2, (ih z).mp w⟩
    · rintro ⟨o1, o2, w⟩
      have z := one.mpr ⟨o1, o2⟩
      exact ⟨z, (ih z).mpr w⟩
  | [], _ :: _, _, _, _, _, el, _, _, _ => by simp at el
  | _ :: _, [], _, _, _, _, el, _, _, _ => by simp at el
theorem rows_ex : ∀ (n : Nat) {s : Now}, h.At s → ∃ l, h.Rows s l ∧ l.length = n
  | 0, s, _ => ⟨[], trivial, rfl⟩
  | n + 1, s, a => by
    obtain ⟨m, hm'⟩ := eve_ex hN hL hd a.op (s := s)
    have t : h.Turn s (h.goes s m) := ⟨m, hm', rfl⟩
    obtain ⟨l, x, e⟩ := rows_ex n (turn_at hm a t)
    exact ⟨_ :: l, ⟨t, x⟩, by simp [e]⟩
/-- the pots with which the turns go on these evenings -/
theorem seen_pots {d a : Nat} {evs : List Nat} {bs : List (Int × Int)} (od : h.isOpen d = true) (ha : a < h.needs.length) (ri : Rise d evs) (y : h.Bs (h.given d - h.most - 1) d evs bs) {p : Int} (p0 : 0 ≤ p) (p1 : p ≤ h.most) :
    h.Fits ⟨d, a, p⟩ evs ↔ h.InI a (h.given d - p) ((h.given d - h.most - 1, h.given d) :: bs) := by
  have at_ : h.At ⟨d, a, p⟩ := ⟨od, ha, p0, p1⟩
  obtain ⟨l, x, e⟩ := rows_ex hL hN ho hd hm hn evs.length at_
  have el : h.lineZ ⟨d, a, p⟩ = h.given d - p := rfl
  rw [fits_iff x e, seen_iff hL hN ho hd hm hn at_ x e ri y (by rw [el]; omega), el]
  show _ ↔ _ < _ ∧ _ ≤ _ ∧ _
  constructor
  · intro z; exact ⟨by show h.given d - h.most - 1 < _; omega, by show _ ≤ h.given d; omega, z⟩
  · exact fun z => z.2.2
omit hn in
/-- one step back -/
theorem inI_back {a : Nat} {b : Int × Int} {bs : List (Int × Int)} {A U A' U' : Int} (ih : ∀ x, (A < x ∧ x ≤ U) ↔ h.InI ((a + 1) % h.needs.length) x bs) (bA : h.Back A A') (bU : h.Back U U') :
    ∀ x, (max b.1 (A' - h.need a) < x ∧ x ≤ min b.2 (U' - h.need a)) ↔ h.InI a x (b :: bs) := fun x => by
  show _ ↔ b.1 < x ∧ x ≤ b.2 ∧ h.InI _ _ bs
  rw [← ih]
  have e : h.ledZ a x = x + h.need a + h.lostZ (x + h.need a) := rfl
  have iA := bA (x + h.need a)
  have iU := bU (x + h.need a)
  rw [e]
  constructor
  · rintro ⟨z1, z2⟩
    refine ⟨by omega, by omega, Int.not_le.mp fun w => ?_, iU.mpr (by omega)⟩
    have := iA.mp w
    omega
  · rintro ⟨z1, z2, z3, z4⟩
    have w1 := iU.mp z4
    have w2 : ¬ x + h.need a ≤ A' := fun w => by have := iA.mpr w; omega
    omega
end
end Hill
end Hz
set_option Elab.async false
set_option linter.all false
set_option maxRecDepth 100000
set_option maxHeartbeats 4000000
namespace Z28
open PySem PySem.Spec PyProof.Rows L2 Hz
section
variable {P : Program} {w : World} {K : PySem.W.Frag} {mg : Str → Option Value} {base : Heap}
local macro_rules | `(tactic| walk_at "un") => `(tactic| try dsimp only [tSeq, tIfS, tRet, tAsg, tDrop, tOr, tAnd, tNot, tAndV, tOrV, tNotV, tTest, tB, tOp, tUn, tCB, tCons, tNil, tC, tNext, tIf, tChain, gName, tPar, tPar3, tTup, tLst])
theorem rise_last : ∀ {evs : List Nat} {prev e : Nat}, Hill.Rise prev (evs ++ [e]) → Hill.lastE prev evs ≤ e
  | [], _, _, x => x.1
  | _ :: evs, _, _, x => rise_last (evs := evs) x.2
theorem rise_take : ∀ {evs : List Nat} {prev : Nat} (n : Nat), Hill.Rise prev evs → Hill.Rise prev (evs.take n)
  | _, _, 0, _ => by rw [List.take_zero]; trivial
  | [], _, n + 1, _ => trivial
  | e :: evs, _, n + 1, x => ⟨x.1, rise_take n x.2⟩
theorem rise_ge : ∀ {evs : List Nat} {prev : Nat}, Hill.Rise prev evs → prev ≤ Hill.lastE prev evs
  | [], _, _ => Nat.le_refl _
  | e :: evs, _, x => Nat.le_trans x.1 (rise_ge x.2)
theorem last_open {h : Hill} : ∀ {evs : List Nat} {prev : Nat}, h.isOpen prev = true → (∀ e ∈ evs, h.isOpen e = true) → h.isOpen (Hill.lastE prev evs) = true
  | [], _, o, _ => o
  | e :: evs, _, _, a => last_open (evs := evs) (prev := e) (a e (by simp)) fun f hf => a f (List.mem_cons_of_mem _ hf)
/-- the bounds of lines -/
def bounds0 (h : Hill) (d : Nat) (bs : List (Int × Int)) : List (Int × Int) := (h.given d - h.most - 1, h.given d) :: bs
def spBounds (K : PySem.W.Frag) : Sp := fun vs H Q _ => ∃ (t t2 : Bool) (h : Hill) (v w : V) (d : Nat) (evs : List Nat), vs = [v, .int d, w] ∧ Dp K H v (h.dat t) ∧ HillOk h ∧ h.isOpen d = true ∧ Dp K H w (sq t2 ((evs.map fun e : Nat => (e : Int)).map PyData.int)) ∧ Hill.Rise d evs ∧ evs.length ≤ 1000 ∧
  (∀ H', (∃ e ∈ evs, h.isOpen e = false) → Ex [] H H' → Q .non H') ∧ ∀ bs p us H', h.Bs (h.given d - h.most - 1) d evs bs → H p = none → H' p = some (.lst us) → DpAll K H' us ((bounds0 h d bs).map duoD) → Ex [] H H' → Q (.ref p) H'
theorem ok_line_bounds (T : Txt K mg) : FnOk P w K mg base CX0 3 T.a_line_bounds T.d_line_bounds P_line_bounds (spBounds K) := by
  have nd := sc_line_bounds.nd
  have G_given_by := ok_given_by (P := P) (w := w) (base := base) T
  have G_open_until := ok_open_until (P := P) (w := w) (base := base) T
  refine T.F_line_bounds.ok sc_line_bounds (fun vs H Q E h => ?_) (fun cdv A outer s H vs Q E hr h => ?_)
  · obtain ⟨t, t2, h, v, w, d, evs, rfl, _⟩ := h
    rfl
  · obtain ⟨t, t2, h, v, w, d, evs, rfl, hD, hk, od, hw, ri, ln, q0, q1⟩ := h
    have hr_given_by := hr
    have hr_open_until := hr.mono (show 1 ≤ 2 by decide)
    refine ⟨_, (pss_cons (ps_set (i := 3) nd rfl (Or.inl rfl) (pe_call G_given_by hr_given_by (by rfl) T.m_given_by T.k_given_by T.b_given_by .nil pass0 (pa_cons (pv 0) (pa_cons (pv 1) pa_nil))))
      (pss_cons (ps_set (i := 4) nd rfl (Or.inl rfl) (pe_lst (pa_cons (pe_tup (pa_cons (pe_op op_sub (pe_op op_sub (pv 3) (pe_ix (ixK K) (pv 0) pe_int (fun _ _ => rfl))) pe_int) (pa_cons (pv 3) pa_nil))) pa_nil)))
      (pss_cons (ps_for PassesOwn.never rfl (pi_seqK K (pv 2)) (pg_name (i := 5) nd rfl (Or.inl rfl)) (pss_cons (ps_if (pt_cmpR op_lt (pe_call G_open_until hr_open_until (by rfl) T.m_open_until T.k_open_until T.b_open_until .nil pass0 (pa_cons (pv 0) (pa_cons (pv 5) pa_nil))) (pv 5) (nomark _)) (pss_one (ps_ret pe_non)) pss_nil)
      (pss_cons (ps_set (i := 6) nd rfl (Or.inl rfl) (pe_ix (ixK K) (pe_ix (ixK K) (pv 4) pe_int (fun _ _ => rfl)) pe_int (fun _ _ => rfl)))
      (pss_cons (ps_if (pt_cmpR op_gt (pv 5) (pv 1) (nomark _)) (pss_one (ps_set (i := 6) nd rfl (Or.inl rfl) (pe_call G_given_by hr_given_by (by rfl) T.m_given_by T.k_given_by T.b_given_by .nil pass0 (pa_cons (pv 0) (pa_cons (pe_call G_open_until hr_open_until (by rfl) T.m_open_until T.k_open_until T.b_open_until .nil pass0 (pa_cons (pv 0) (pa_cons (pe_op op_sub (pv 5) pe_int) pa_nil))) pa_nil))))) pss_nil)
      (pss_cons (ps_expr (pe_bm PySem.F.plainAttrs_list PySem.F.slot_list_append PySem.F.type_list_append mt_append (pv 4) (pa_cons (pe_tup (pa_cons (pv 6) (pa_cons (pe_call G_given_by hr_given_by (by rfl) T.m_given_by T.k_given_by T.b_given_by .nil pass0 (pa_cons (pv 0) (pa_cons (pv 5) pa_nil))) pa_nil))) pa_nil)))
      (pss_one (ps_set (i := 1) nd rfl (Or.inl rfl) (pv 5))))))))
      (pss_one (ps_ret (pv 4)))))), ?_⟩
    have est : L2.start N_line_bounds [v, .int d, w] = [some v, some (.int d), some w, none, none, none, none] := rfl
    rw [est]
    clear est
    walk_at "un"
    refine ⟨_, rfl, _, rfl, t, h, v, d, rfl, hD, hk, fun r H1 er x1 => ?_⟩
    subst er
    refine ⟨_, rfl, _, rfl, z_ixD (dp_le x1.le0 _ _ hD) (Le.refl _) (j := 2) rfl rfl fun u hu => ?_⟩
    obtain rfl := dp_int hu
    refine ⟨_, _, rfl, rfl, _, _, rfl, rfl, _, rfl, (by show 2 ≤ sizeLine; decide), fun p hp => ⟨(by show 1 ≤ sizeLine; decide), fun L hL => ?_⟩⟩
    have y1 := Ex.new (B := []) (o := .tup [.int (h.given d - h.most - 1), .int (h.given d)]) hp
    have y2 := Ex.new (B := []) (o := .lst [.ref p]) hL
    have L0 : H L = none := (x1.trans y1).free hL
    have pL : p ≠ L := fun z => by rw [z] at hL; rw [upd_same] at hL; cases hL
    have p2 := y2.1 _ _ (by simp) (upd_same (H := H1) (a := p) (o := .tup [.int (h.given d - h.most - 1), .int (h.given d)]))
    have l2 := upd_same (H := upd H1 p (.tup [.int (h.given d - h.most - 1), .int (h.given d)])) (a := L) (o := .lst [.ref p])
    have x2 := (x1.trans y1).trans y2
    generalize upd (upd H1 p (.tup [.int (h.given d - h.most - 1), .int (h.given d)])) L (.lst [.ref p]) = H2 at p2 l2 x2 ⊢
    obtain ⟨wa, ws, rfl, hwS, hwA⟩ := dp_sq (dp_le (le_wo (Ex.nil (B := [L]) x2) (by simpa using L0)) _ _ hw)
    have ews := dpa_ints hwA
    subst ews
    walk_at "un"
    have hbase : ∀ bs : List (Int × Int), (bounds0 h d bs).map duoD = duoD (h.given d - h.most - 1, h.given d) :: bs.map duoD := fun _ => rfl
    refine z_forS (B := [L]) (a := wa) (xs := (evs.map fun e : Nat => (e : Int)).map V.int) hwS.sq (fun R r => ⟨_, rfl, r⟩) (fun i σ H' => ∃ (u5 u6 : Option V) (bs : List (Int × Int)) (us : List V), σ = [some v, some (.int (Hill.lastE d (evs.take i))), some (.ref wa), some (.int (h.given d)), some (.ref L), u5, u6] ∧ Ex [L] H2 H' ∧ Ex [] H H' ∧ h.Bs (h.given d - h.most - 1) d (evs.take i) bs ∧ H' L = some (.lst us) ∧ us.length = i + 1 ∧ DpAll K (wo [L] H') us ((bounds0 h d bs).map duoD) ∧ ∀ e ∈ evs.take i, h.isOpen e = true)
      ⟨none, none, [], [.ref p], by rw [List.take_zero]; rfl, Ex.refl _ _, x2, by rw [List.take_zero]; rfl, l2, rfl, .cons (.tup (SqT.of (wo_of (by simpa using pL) p2)) (dpa_of_ints [h.given d - h.most - 1, h.given d])) .nil, by rw [List.take_zero]; simp⟩ (fun i σ' H' hP => ?_) (fun i u σ' H' hu hP => ?_) (fun σ' H' hP => ?_)
    · obtain ⟨_, _, _, _, _, e, _⟩ := hP
      exact e
    · obtain ⟨u5, u6, bs, us, rfl, xL, x3, hB, hL3, lu, hU, op⟩ := hP
      rw [List.getElem?_map, List.getElem?_map] at hu
      obtain ⟨e', he', rfl⟩ := Option.map_eq_some_iff.mp hu
      obtain ⟨e, he, rfl⟩ := Option.map_eq_some_iff.mp he'
      have hi : i < evs.length := (List.getElem?_eq_some_iff.mp he).1
      have etk : evs.take (i + 1) = evs.take i ++ [e] := by rw [List.take_add_one, he]; rfl
      have ril : Hill.lastE d (evs.take i) ≤ e := by
        have := rise_take (i + 1) ri
        rw [etk] at this
        exact rise_last this
      have ge := rise_ge (rise_take i ri)
      walk_at "un"
      refine ⟨_, rfl, _, rfl, t, h, v, e, d, rfl, dp_le x3.le0 _ _ hD, hk, by omega, od, fun m um => ?_⟩
      refine ⟨_, rfl, _, _, rfl, rfl, _, rfl, ite2 (fun c => ?_) (fun c => ?_)⟩
      · have c' : (m : Int) < e := of_decide_eq_true c
        refine q0 _ ⟨e, List.mem_of_getElem? he, ?_⟩ x3
        exact um.2.2 e (by omega) (Nat.le_refl _)
      · have c' : ¬ (m : Int) < e := of_decide_eq_false (Bool.eq_false_iff.mpr c)
        have oe : h.isOpen e = true := by
          have := um.1
          rw [show e = m by omega]; exact um.2.1
        have ue : us[0]? = some us[0] := List.getElem?_eq_getElem (by omega)
        obtain ⟨d0, hd0, hDd0⟩ := dpa_get' hU ue
        rw [hbase] at hd0
        obtain rfl := Option.some.inj hd0
        refine ⟨_, rfl, z_ixL hL3 (atI_nat (j := 0) ue) (z_ixD (t := true) hDd0 (wo_le _ _) (j := 0) rfl rfl fun u0 hu0 => ?_)⟩
        obtain rfl := dp_int hu0
        refine ⟨_, rfl, _, rfl, _, _, rfl, rfl, _, rfl, ite2 (fun c2 => ?_) (fun c2 => ?_)⟩
        · have c2' : ((Hill.lastE d (evs.take i) : Nat) : Int) < e := of_decide_eq_true c2
          have lo := last_open od op
          have e1 : ((e - 1 : Nat) : Int) = (e : Int) - 1 := by omega
          refine ⟨_, rfl, _, rfl, _, rfl, _, _, rfl, rfl, t, h, v, e - 1, d, by rw [e1]; rfl, dp_le x3.le0 _ _ hD, hk, by omega, od, fun m2 um2 => ?_⟩
          refine ⟨t, h, v, m2, rfl, dp_le x3.le0 _ _ hD, hk, fun r G1 er z1 => ?_⟩
          subst er
          refine ⟨_, rfl, .inl ⟨rfl, _, SqL.of (z1.1 _ _ (by simp) hL3)⟩, _, rfl, _, rfl, _, rfl, t, h, v, e, rfl, dp_le (x3.trans z1).le0 _ _ hD, hk, fun r G2 er z2 => ⟨(by show 2 ≤ sizeLine; decide), fun T hT => ?_⟩⟩
          subst er
          have z3 := Ex.new (B := []) (o := .tup [.int (h.given m2), .int (h.given e)]) hT
          have z23 := z2.trans z3
          have TL : T ≠ L := fun z => by rw [z, z2.1 _ _ (by simp) (z1.1 _ _ (by simp) hL3)] at hT; cases hT
          refine ⟨L, _, _, rfl, rfl, z23.1 _ _ (by simp) (z1.1 _ _ (by simp) hL3), sz_lt (by omega), ?_⟩
          walk_at "un"
          refine ⟨_, rfl, _, _, bs ++ [((h.given m2), h.given e)], us ++ [.ref T], by rw [etk, Hill.lastE_snoc]; rfl, ?_, ((x3.trans z1).trans z23).mutNew' L0, ?_, upd_same, by rw [List.length_append, lu]; rfl, ?_, ?_⟩
          · exact (xL.trans (Ex.nil (z1.trans z23))).trans (Ex.mut (by simp))
          · rw [etk]
            exact Hill.bs_snoc hB oe (fun _ => ⟨m2, um2, rfl⟩) (fun n => absurd (by omega) n)
          · rw [hbase, List.map_append]
            refine dpa_snoc (l := us) (ds := duoD (h.given d - h.most - 1, h.given d) :: bs.map duoD) (dpa_le (Le.trans (Ex.nil (B := [L]) (z1.trans z23)).wo (Ex.mut (B := [L]) (by simp)).wo) _ _ hU) ?_
            exact .tup (SqT.of (wo_of (by simpa using TL) (by rw [upd_ne TL]; exact upd_same))) (dpa_of_ints [(h.given m2), h.given e])
          · intro f hf
            rw [etk] at hf
            rcases List.mem_append.mp hf with hf | hf
            · exact op f hf
            · rw [List.mem_singleton.mp hf]; exact oe
        · have c2' : ¬ ((Hill.lastE d (evs.take i) : Nat) : Int) < e := of_decide_eq_false (Bool.eq_false_iff.mpr c2)
          refine ⟨_, rfl, .inl ⟨rfl, _, SqL.of hL3⟩, _, rfl, _, rfl, _, rfl, t, h, v, e, rfl, dp_le x3.le0 _ _ hD, hk, fun r G2 er z2 => ⟨(by show 2 ≤ sizeLine; decide), fun T hT => ?_⟩⟩
          subst er
          have z3 := Ex.new (B := []) (o := .tup [.int (h.given d - h.most - 1), .int (h.given e)]) hT
          have z23 := z2.trans z3
          have TL : T ≠ L := fun z => by rw [z, z2.1 _ _ (by simp) hL3] at hT; cases hT
          refine ⟨L, _, _, rfl, rfl, z23.1 _ _ (by simp) hL3, sz_lt (by omega), ?_⟩
          walk_at "un"
          refine ⟨_, rfl, _, _, bs ++ [((h.given d - h.most - 1), h.given e)], us ++ [.ref T], by rw [etk, Hill.lastE_snoc]; rfl, ?_, (x3.trans z23).mutNew' L0, ?_, upd_same, by rw [List.length_append, lu]; rfl, ?_, ?_⟩
          · exact (xL.trans (Ex.nil ((Ex.refl [] H').trans z23))).trans (Ex.mut (by simp))
          · rw [etk]
            exact Hill.bs_snoc hB oe (fun n => absurd n (by omega)) (fun _ => rfl)
          · rw [hbase, List.map_append]
            refine dpa_snoc (l := us) (ds := duoD (h.given d - h.most - 1, h.given d) :: bs.map duoD) (dpa_le (Le.trans (Ex.nil (B := [L]) ((Ex.refl [] H').trans z23)).wo (Ex.mut (B := [L]) (by simp)).wo) _ _ hU) ?_
            exact .tup (SqT.of (wo_of (by simpa using TL) (by rw [upd_ne TL]; exact upd_same))) (dpa_of_ints [(h.given d - h.most - 1), h.given e])
          · intro f hf
            rw [etk] at hf
            rcases List.mem_append.mp hf with hf | hf
            · exact op f hf
            · rw [List.mem_singleton.mp hf]; exact oe
    · obtain ⟨u5, u6, bs, us, rfl, xL, x3, hB, hL3, lu, hU, op⟩ := hP
      have full : evs.take ((evs.map fun e : Nat => (e : Int)).map V.int).length = evs := by rw [List.length_map, List.length_map, List.take_length]
      rw [full] at hB
      exact ⟨_, rfl, q1 bs L us H' hB L0 hL3 (dpa_le (wo_le _ _) _ _ hU) x3⟩
end
end Z28
set_option Elab.async false
set_option linter.all false
set_option maxRecDepth 100000
set_option maxHeartbeats 4000000
namespace Z28
open PySem PySem.Spec PyProof.Rows L2 Hz
section
variable {P : Program} {w : World} {K : PySem.W.Frag} {mg : Str → Option Value} {base : Heap}
local macro_rules | `(tactic| walk_at "un") => `(tactic| try dsimp only [tSeq, tIfS, tRet, tAsg, tDrop, tOr, tAnd, tNot, tAndV, tOrV, tNotV, tTest, tB, tOp, tUn, tCB, tCons, tNil, tC, tNext, tIf, tChain, gName, tPar, tPar3, tTup, tLst])
def spSeen (K : PySem.W.Frag) : Sp := fun vs H Q _ => ∃ (t t2 : Bool) (h : Hill) (v w : V) (d a : Nat) (evs : List Nat), vs = [v, .int d, .int a, w] ∧ Dp K H v (h.dat t) ∧ HillOk h ∧ h.isOpen d = true ∧ a < h.needs.length ∧ Dp K H w (sq t2 ((evs.map fun e : Nat => (e : Int)).map PyData.int)) ∧ Hill.Rise d evs ∧ evs.length ≤ 1000 ∧
  (∀ H', (∀ p : Int, 0 ≤ p → p ≤ h.most → ¬ h.Fits ⟨d, a, p⟩ evs) → Ex [] H H' → Q .non H') ∧
  ∀ lo hi p H', 0 ≤ lo → lo ≤ hi → hi ≤ h.most → (∀ q : Int, 0 ≤ q → q ≤ h.most → (h.Fits ⟨d, a, q⟩ evs ↔ lo ≤ q ∧ q ≤ hi)) → H p = none → H' p = some (.tup [.int lo, .int hi]) → Ex [] H H' → Q (.ref p) H'
theorem ok_pots_seen (T : Txt K mg) : FnOk P w K mg base CX0 5 T.a_pots_seen T.d_pots_seen P_pots_seen (spSeen K) := by
  have nd := sc_pots_seen.nd
  have G_line_bounds := ok_line_bounds (P := P) (w := w) (base := base) T
  have G_stretches := ok_stretches (P := P) (w := w) (base := base) T
  have G_year_drops := ok_year_drops (P := P) (w := w) (base := base) T
  have G_number_back := ok_number_back (P := P) (w := w) (base := base) T
  have G_given_by := ok_given_by (P := P) (w := w) (base := base) T
  refine T.F_pots_seen.ok sc_pots_seen (fun vs H Q E h => ?_) (fun cdv A outer s H vs Q E hr h => ?_)
  · obtain ⟨t, t2, h, v, w, d, a, evs, rfl, _⟩ := h
    rfl
  · obtain ⟨t, t2, h, v, w, d, a, evs, rfl, hD, hk, od, ha, hw, ri, ln, q0, q1⟩ := h
    have hr_line_bounds := hr.mono (show 3 ≤ 4 by decide)
    have hr_stretches := hr
    have hr_year_drops := hr.mono (show 1 ≤ 4 by decide)
    have hr_number_back := hr.mono (show 1 ≤ 4 by decide)
    have hr_given_by := hr.mono (show 2 ≤ 4 by decide)
    have hn1 := hk.n1
    have hL0 := hk.L0
    refine ⟨_, (pss_cons (ps_set (i := 4) nd rfl (Or.inl rfl) (pe_call G_line_bounds hr_line_bounds (by rfl) T.m_line_bounds T.k_line_bounds T.b_line_bounds .nil pass0 (pa_cons (pv 0) (pa_cons (pv 1) (pa_cons (pv 3) pa_nil)))))
      (pss_cons (ps_if (pt_cmpR op_isN (pv 4) pe_non (nomark _)) (pss_one (ps_ret pe_non)) pss_nil)
      (pss_cons (ps_par3 (i := 5) (j := 6) (l := 7) (by rfl) nd rfl rfl rfl (by decide) (by decide) (by decide) rfl rfl rfl (pa_cons (pe_ix (ixK K) (pv 0) pe_int (fun _ _ => rfl)) (pa_cons (pe_call G_stretches hr_stretches (by rfl) T.m_stretches T.k_stretches T.b_stretches .nil pass0 (pa_cons (pv 0) pa_nil)) (pa_cons (pe_call G_year_drops hr_year_drops (by rfl) T.m_year_drops T.k_year_drops T.b_year_drops .nil pass0 (pa_cons (pv 0) pa_nil)) pa_nil))) (by rfl))
      (pss_cons (ps_asg (pe_ix (ixK K) (pv 4) (pe_un un_neg pe_int) (fun _ _ => rfl)) (pg_tupK K 2 (by rfl) (pgs_cons (pg_name (i := 8) nd rfl (Or.inl rfl)) (pgs_cons (pg_name (i := 9) nd rfl (Or.inl rfl)) pgs_nil))))
      (pss_cons (ps_for PassesOwn.never rfl (pi_range3 (by rfl) T.z_range (pa_cons (pe_op op_sub (pe_callB (lenK K) (by rfl) T.z_len (by decide +kernel) (pa_cons (pv 3) pa_nil)) pe_int) (pa_cons (pe_un un_neg pe_int) (pa_cons (pe_un un_neg pe_int) pa_nil)))) (pg_name (i := 10) nd rfl (Or.inl rfl)) (pss_cons (ps_set (i := 11) nd rfl (Or.inl rfl) (pe_ix (ixK K) (pv 5) (pe_op op_mod (pe_op op_add (pv 2) (pv 10)) (pe_callB (lenK K) (by rfl) T.z_len (by decide +kernel) (pa_cons (pv 5) pa_nil))) (fun _ _ => rfl)))
      (pss_cons (ps_set (i := 8) nd rfl (Or.inl rfl) (pe_callB (call_max2 rfl) (by rfl) T.z_max (by decide +kernel) (pa_cons (pe_ix (ixK K) (pe_ix (ixK K) (pv 4) (pv 10) (fun _ _ => rfl)) pe_int (fun _ _ => rfl)) (pa_cons (pe_op op_sub (pe_call G_number_back hr_number_back (by rfl) T.m_number_back T.k_number_back T.b_number_back .nil pass0 (pa_cons (pv 6) (pa_cons (pv 7) (pa_cons (pv 8) pa_nil)))) (pv 11)) pa_nil))))
      (pss_one (ps_set (i := 9) nd rfl (Or.inl rfl) (pe_callB (call_min2 rfl) (by rfl) T.z_min (by decide +kernel) (pa_cons (pe_ix (ixK K) (pe_ix (ixK K) (pv 4) (pv 10) (fun _ _ => rfl)) pe_int (fun _ _ => rfl)) (pa_cons (pe_op op_sub (pe_call G_number_back hr_number_back (by rfl) T.m_number_back T.k_number_back T.b_number_back .nil pass0 (pa_cons (pv 6) (pa_cons (pv 7) (pa_cons (pv 9) pa_nil)))) (pv 11)) pa_nil))))))))
      (pss_cons (ps_if (pt_cmpR op_ge (pv 8) (pv 9) (nomark _)) (pss_one (ps_ret pe_non)) pss_nil)
      (pss_cons (ps_set (i := 12) nd rfl (Or.inl rfl) (pe_call G_given_by hr_given_by (by rfl) T.m_given_by T.k_given_by T.b_given_by .nil pass0 (pa_cons (pv 0) (pa_cons (pv 1) pa_nil))))
      (pss_one (ps_ret (pe_tup (pa_cons (pe_op op_sub (pv 12) (pv 9)) (pa_cons (pe_op op_sub (pe_op op_sub (pv 12) (pv 8)) pe_int) pa_nil)))))))))))), ?_⟩
    have est : L2.start N_pots_seen [v, .int d, .int a, w] = [some v, some (.int d), some (.int a), some w, none, none, none, none, none, none, none, none, none] := rfl
    rw [est]
    clear est
    walk_at "un"
    refine ⟨_, rfl, _, rfl, _, rfl, t, t2, h, v, w, d, evs, rfl, hD, hk, od, hw, ri, ln, fun H1 sh x1 => ?_, fun bs p us H1 hB hp hp1 hU x1 => ?_⟩
    · -- a shut evening
      walk_at "un"
      refine ⟨_, rfl, rfl, _, rfl, ?_⟩
      rw [decide_eq_true (show V.non = V.non from rfl)]
      refine iteT (q0 H1 (fun p p0 p1 f => ?_) x1)
      obtain ⟨e, he, oe⟩ := sh
      obtain ⟨l, x, el⟩ := Hill.rows_ex hL0 hk.nn hk.op hk.dr hk.m0 hk.nn0 evs.length (s := ⟨d, a, p⟩) ⟨od, ha, p0, p1⟩
      have hm := f l x el
      rw [← hm] at he
      obtain ⟨r, hr', er⟩ := List.mem_map.mp he
      have := (Hill.rows_mem hk.m0 (s := ⟨d, a, p⟩) ⟨od, ha, p0, p1⟩ x r hr').op
      rw [er, oe] at this
      cases this
    walk_at "un"
    refine ⟨_, rfl, rfl, _, rfl, ?_⟩
    rw [decide_eq_false (show ¬ V.ref p = V.non from fun z => by cases z)]
    refine iteF ?_
    have hD1 := dp_le x1.le0 _ _ hD
    refine ⟨_, rfl, z_ixD hD1 (Le.refl _) (j := 1) rfl rfl fun nv hnv => ?_⟩
    obtain ⟨na, ns, rfl, hnS, hnA⟩ := dp_sq hnv
    have lns := dpa_len hnA
    rw [List.length_map] at lns
    refine ⟨_, rfl, t, h, v, rfl, hD1, hk, fun l us2 p2 H2 hl _ hp2 hU2 x2 => ?_⟩
    have hUS := dpa_le (wo_le _ _) _ _ (hU2 [] (by simp))
    refine ⟨_, rfl, t, h, v, rfl, dp_le x2.le0 _ _ hD1, hk, fun H3 x3 => ⟨_, _, _, rfl, ?_⟩⟩
    have x23 := x2.trans x3
    have x13 := x1.trans x23
    have hp3 := x23.1 _ _ (by simp) hp1
    have hU3 := dpa_le x23.le0 _ _ hU
    have lbs := Hill.bs_len hB
    have lus := dpa_len hU3
    rw [List.length_map] at lus
    have lb0 : (bounds0 h d bs).length = evs.length + 1 := by unfold bounds0; rw [List.length_cons, lbs]
    have hl3 := x3.1 _ _ (by simp) hp2
    have hUS3 := dpa_le x3.le0 _ _ hUS
    walk_at "un"
    -- by place: the pair of bounds
    have at_b : ∀ {G : Hp} {i : Nat}, Ex [] H3 G → i < evs.length + 1 → ∃ u b, us[i]? = some u ∧ (bounds0 h d bs)[i]? = some b ∧ Dp K G u (duoD b) := fun {G i} e hi => by
      have hu : us[i]? = some (us[i]'(by omega)) := List.getElem?_eq_getElem _
      obtain ⟨dd, hdd, hDd⟩ := dpa_get' hU3 hu
      rw [List.getElem?_map] at hdd
      obtain ⟨b, hb, rfl⟩ := Option.map_eq_some_iff.mp hdd
      exact ⟨_, b, hu, hb, dp_le e.le0 _ _ hDd⟩
    obtain ⟨ul, bl, hul, hbl, hDl⟩ := at_b (i := evs.length) (Ex.refl _ _) (by omega)
    refine ⟨_, rfl, _, rfl, z_ixL hp3 (atI_end (n := evs.length) (by omega) hul) ?_⟩
    obtain ⟨pa, qs, rfl, hSp, hqA⟩ := dp_sq (t := true) (ds := [.int bl.1, .int bl.2]) hDl
    have eqs := dpa_ints (ns := [bl.1, bl.2]) hqA
    subst eqs
    refine ⟨pa, _, rfl, hSp, rfl, _, _, rfl, _, _, rfl, rfl, ?_⟩
    walk_at "un"
    obtain ⟨wa, ws, rfl, hwS, hwA⟩ := dp_sq (dp_le x13.le0 _ _ hw)
    have lws := dpa_len hwA
    rw [List.length_map, List.length_map] at lws
    have t62 : (2 : Int) ^ 62 = 4611686018427387904 := by decide
    refine ⟨_, rfl, _, _, rfl, hwS.sq, _, _, rfl, rfl, _, rfl, _, rfl, ?_⟩
    rw [lws]
    refine ⟨_, _, _, evs.length, rfl, ?_, for_rangeC (lo := (evs.length : Int) - 1) (c := -1) (n := evs.length) (fun i σ H' => ∃ (A U : Int) (u10 u11 : Option V), σ = [some v, some (.int d), some (.int a), some (.ref wa), some (.ref p), some (.ref na), some (.ref p2), some (.int h.drops), some (.int A), some (.int U), u10, u11, none] ∧ H' = H3 ∧ ∀ x, (A < x ∧ x ≤ U) ↔ h.InI ((a + (evs.length - i)) % h.needs.length) x ((bounds0 h d bs).drop (evs.length - i)))
      ⟨bl.1, bl.2, _, _, rfl, rfl, fun x => ?_⟩ (fun i σ H' hi hP => ?_) (fun σ H' hP => ?_)⟩
    · have := RgC.neg (i := (evs.length : Int) - 1) (j := -1) (by omega) (by omega) (by omega) (by omega)
      rw [show ((evs.length : Int) - 1 - -1).toNat = evs.length by omega] at this
      exact this
    · have e : (bounds0 h d bs).drop (evs.length - 0) = [bl] := by
        rw [Nat.sub_zero, List.drop_eq_getElem_cons (by omega), List.drop_eq_nil_of_le (by omega)]
        rw [List.getElem?_eq_getElem (by omega)] at hbl
        rw [Option.some.inj hbl]
      rw [e]
      exact ⟨fun z => ⟨z.1, z.2, trivial⟩, fun z => ⟨z.1, z.2.1⟩⟩
    · obtain ⟨A0, U0, u10, u11, rfl, rfl, inv⟩ := hP
      walk_at "un"
      obtain ⟨k, hk'⟩ : ∃ k, k = evs.length - (i + 1) := ⟨_, rfl⟩
      have ek : evs.length - i = k + 1 := by omega
      rw [ek] at inv
      have em : ((a : Int) + ((evs.length : Int) - 1 + (i : Int) * -1)) % (h.needs.length : Int) = (((a + k) % h.needs.length : Nat) : Int) := by
        rw [show (a : Int) + ((evs.length : Int) - 1 + (i : Int) * -1) = ((a + k : Nat) : Int) by omega, Int.natCast_emod]
      have ej : (evs.length : Int) - 1 + (i : Int) * -1 = (k : Int) := by omega
      have hlt := Nat.mod_lt (a + k) (show h.needs.length > 0 by omega)
      refine ⟨_, rfl, _, rfl, _, rfl, _, _, rfl, rfl, _, rfl, _, _, rfl, (le_x x23.le0 hnS).sq, _, _, rfl, rfl, by rw [lns]; show (0 : Int) < _; omega, ?_⟩
      rw [lns]
      refine z_ixD (dp_le x23.le0 _ _ hnv) (Le.refl _) (j := (a + k) % h.needs.length) em (need_dat hlt) fun b hb' => ?_
      obtain rfl := dp_int hb'
      walk_at "un"
      obtain ⟨uk, bk, huk, hbk, hDk⟩ := at_b (i := k) (Ex.refl _ _) (by omega)
      refine ⟨_, rfl, _, rfl, z_ixL hp3 (by rw [ej]; exact atI_nat huk) (z_ixD (t := true) hDk (Le.refl _) (j := 0) rfl rfl fun u0 hu0 => ?_)⟩
      obtain rfl := dp_int hu0
      refine ⟨_, rfl, _, rfl, _, rfl, h, l, p2, us2, A0, rfl, hk, hl, SqL.of hl3, hUS3, fun A1 bA => ?_⟩
      refine ⟨_, rfl, _, _, rfl, rfl, _, _, rfl, ?_⟩
      walk_at "un"
      refine ⟨_, rfl, _, rfl, z_ixL hp3 (by rw [ej]; exact atI_nat huk) (z_ixD (t := true) hDk (Le.refl _) (j := 1) rfl rfl fun u0 hu0 => ?_)⟩
      obtain rfl := dp_int hu0
      refine ⟨_, rfl, _, rfl, _, rfl, h, l, p2, us2, U0, rfl, hk, hl, SqL.of hl3, hUS3, fun U1 bU => ?_⟩
      refine ⟨_, rfl, _, _, rfl, rfl, _, _, rfl, _, _, _, _, rfl, rfl, fun x => ?_⟩
      have dropk : (bounds0 h d bs).drop k = bk :: (bounds0 h d bs).drop (k + 1) := by
        rw [List.drop_eq_getElem_cons (by omega)]
        rw [List.getElem?_eq_getElem (by omega)] at hbk
        rw [Option.some.inj hbk]
      have back := Hill.inI_back hL0 hk.nn hk.op hk.dr hk.m0 (a := (a + k) % h.needs.length) (b := bk) (bs := (bounds0 h d bs).drop (k + 1)) (A := A0) (U := U0) (fun x => by
        rw [inv x, Nat.mod_add_mod, Nat.add_assoc]) bA bU x
      rw [← hk', dropk, ← back]
      have e1 : (if A1 - h.need ((a + k) % h.needs.length) > bk.1 then A1 - h.need ((a + k) % h.needs.length) else bk.1) = max bk.1 (A1 - h.need ((a + k) % h.needs.length)) := by split <;> omega
      have e2 : (if U1 - h.need ((a + k) % h.needs.length) < bk.2 then U1 - h.need ((a + k) % h.needs.length) else bk.2) = min bk.2 (U1 - h.need ((a + k) % h.needs.length)) := by split <;> omega
      rw [e1, e2]
    · obtain ⟨A0, U0, u10, u11, rfl, rfl, inv⟩ := hP
      rw [Nat.sub_self, List.drop_zero, Nat.add_zero, Nat.mod_eq_of_lt ha] at inv
      have fit : ∀ q : Int, 0 ≤ q → q ≤ h.most → (h.Fits ⟨d, a, q⟩ evs ↔ A0 < h.given d - q ∧ h.given d - q ≤ U0) := fun q a0 a1 => by
        rw [Hill.seen_pots hL0 hk.nn hk.op hk.dr hk.m0 hk.nn0 od ha ri hB a0 a1, inv]
        rfl
      have inb : ∀ x, A0 < x → x ≤ U0 → h.given d - h.most - 1 < x ∧ x ≤ h.given d := fun x z1 z2 => by
        have := (inv x).mp ⟨z1, z2⟩
        exact ⟨this.1, this.2.1⟩
      walk_at "un"
      refine ⟨_, rfl, _, rfl, _, _, rfl, rfl, _, rfl, ite2 (fun c => ?_) (fun c => ?_)⟩
      · have c' : U0 ≤ A0 := of_decide_eq_true c
        refine q0 _ (fun q a0 a1 f => ?_) x13
        have := (fit q a0 a1).mp f
        omega
      · have c' : ¬ U0 ≤ A0 := of_decide_eq_false (Bool.eq_false_iff.mpr c)
        have b1 := inb (A0 + 1) (by omega) (by omega)
        have b2 := inb U0 (by omega) (by omega)
        refine ⟨_, rfl, _, rfl, t, h, v, d, rfl, dp_le x23.le0 _ _ hD1, hk, fun r H5 er x5 => ?_⟩
        subst er
        refine ⟨_, rfl, _, rfl, _, _, rfl, rfl, _, rfl, _, rfl, _, _, rfl, rfl, _, _, rfl, rfl, (by show 2 ≤ sizeLine; decide), fun p6 hp6 => ?_⟩
        have x6 := x5.trans (Ex.new (B := []) (o := .tup [.int (h.given d - U0), .int (h.given d - A0 - 1)]) hp6)
        exact q1 (h.given d - U0) (h.given d - A0 - 1) p6 _ (by omega) (by omega) (by omega) (fun q a0 a1 => by rw [fit q a0 a1]; constructor <;> (intro ⟨z1, z2⟩; exact ⟨by omega, by omega⟩)) ((x13.trans x5).free hp6) upd_same (x13.trans x6)
end
end Z28
set_option Elab.async false
set_option linter.all false
set_option maxRecDepth 100000
set_option maxHeartbeats 4000000
namespace Z28
open PySem PySem.Spec PyProof.Rows L2 Hz
section
variable {P : Program} {w : World} {K : PySem.W.Frag} {mg : Str → Option Value} {base : Heap}
/-- what is told of pots -/
def Out (h : Hill) (d a : Nat) (evs : List Nat) : Option (Int × Int) → Prop
  | none => ∀ p : Int, 0 ≤ p → p ≤ h.most → ¬ h.Fits ⟨d, a, p⟩ evs
  | some r => 0 ≤ r.1 ∧ r.1 ≤ h.most ∧ 0 ≤ r.2 ∧ r.2 ≤ h.most ∧ h.Fits ⟨d, a, r.1⟩ evs ∧ h.Fits ⟨d, a, r.2⟩ evs ∧ ∀ q : Int, 0 ≤ q → q ≤ h.most → h.Fits ⟨d, a, q⟩ evs → r.1 ≤ q ∧ q ≤ r.2
theorem out_uniq {h : Hill} {d a : Nat} {evs : List Nat} : ∀ {r r' : Option (Int × Int)}, Out h d a evs r → Out h d a evs r' → r = r'
  | none, none, _, _ => rfl
  | none, some r, x, y => absurd y.2.2.2.2.1 (x _ y.1 y.2.1)
  | some r, none, y, x => absurd y.2.2.2.2.1 (x _ y.1 y.2.1)
  | some (a, b), some (c, d), ⟨x1, x2, x3, x4, x5, x6, x7⟩, ⟨y1, y2, y3, y4, y5, y6, y7⟩ => by
    have := x7 c y1 y2 y5
    have := x7 d y3 y4 y6
    have := y7 a x1 x2 x5
    have := y7 b x3 x4 x6
    have e1 : a = c := by omega
    have e2 : b = d := by omega
    rw [e1, e2]
def Val (H H' : Hp) : Option (Int × Int) → V → Prop
  | none, v => v = .non
  | some r, v => ∃ p, v = .ref p ∧ H p = none ∧ H' p = some (.tup [.int r.1, .int r.2])
def outD : Option (Int × Int) → PyData
  | none => .none
  | some r => sq true ([r.1, r.2].map PyData.int)
theorem val_dp {H H' G : Hp} : ∀ {r : Option (Int × Int)} {v : V}, Val H H' r v → Ex [] H' G → Dp K G v (outD r)
  | none, _, e, _ => by cases e; exact .non
  | some r, _, ⟨p, e, _, hp⟩, x => by subst e; exact .tup (SqT.of (x.1 _ _ (by simp) hp)) (dpa_of_ints [r.1, r.2])
theorem dpt_out (N : Nat) : ∀ r : Option (Int × Int), dpt (N + 1) (outD r)
  | none => trivial
  | some r => ⟨by show 2 ≤ 1000; decide, fun d hd => by
      simp only [List.map_cons, List.map_nil, List.mem_cons, List.not_mem_nil, or_false] at hd
      rcases hd with rfl | rfl <;> cases N <;> trivial⟩
theorem seen_in {H : Hp} {Q : VK} {E : XK} {t t2 : Bool} {h : Hill} {v w : V} {d a : Nat} {evs : List Nat} (hD : Dp K H v (h.dat t)) (hk : HillOk h) (od : h.isOpen d = true) (ha : a < h.needs.length) (hw : Dp K H w (sq t2 ((evs.map fun e : Nat => (e : Int)).map PyData.int))) (ri : Hill.Rise d evs) (ln : evs.length ≤ 1000)
    (k : ∀ r u H', Out h d a evs r → Val H H' r u → Ex [] H H' → Q u H') : spSeen K [v, .int d, .int a, w] H Q E :=
  ⟨t, t2, h, v, w, d, a, evs, rfl, hD, hk, od, ha, hw, ri, ln, fun H' no x => k none _ H' no rfl x, fun lo hi p H' l0 l1 l2 f hp hp' x => k (some (lo, hi)) _ H' ⟨l0, by show lo ≤ _; omega, by show 0 ≤ hi; omega, l2, (f lo l0 (by omega)).mpr ⟨Int.le_refl _, l1⟩, (f hi (by omega) l2).mpr ⟨l1, Int.le_refl _⟩, fun q a b z => (f q a b).mp z⟩ ⟨p, rfl, hp, hp'⟩ x⟩
theorem rise_of : ∀ {evs : List Nat} {d : Nat}, evs.Pairwise (· ≤ ·) → (∀ e ∈ evs, d ≤ e) → Hill.Rise d evs
  | [], _, _, _ => trivial
  | e :: evs, d, p, q => ⟨q e (by simp), rise_of (List.pairwise_cons.mp p).2 fun f hf => (List.pairwise_cons.mp p).1 f hf⟩
theorem rows_rise {h : Hill} : ∀ {l : List (Now × Int)} {s : Now}, h.Rows s l → Hill.Rise s.day (l.map fun r => r.1.day)
  | [], _, _ => trivial
  | r :: l, s, x => ⟨by obtain ⟨m, ⟨x1, _⟩, e⟩ := x.1; rw [e]; exact x1, rows_rise (l := l) (s := r.1) x.2⟩
theorem rise_all : ∀ {evs : List Nat} {d : Nat}, Hill.Rise d evs → ∀ e ∈ evs, d ≤ e
  | [], _, _, _, he => by simp at he
  | f :: evs, d, x, e, he => by
    rcases List.mem_cons.mp he with rfl | he
    · exact x.1
    · exact Nat.le_trans x.1 (rise_all x.2 e he)
theorem nats_of {ns : List Int} (h : ∀ x ∈ ns, 0 ≤ x) : ns = (ns.map Int.toNat).map fun e : Nat => (e : Int) := by
  rw [List.map_map]
  conv => lhs; rw [← List.map_id ns]
  exact List.map_congr_left fun x hx => by show x = ((x.toNat : Nat) : Int); have := h x hx; omega
end
end Z28
set_option Elab.async false
set_option linter.all false
set_option maxRecDepth 100000
set_option maxHeartbeats 8000000
namespace Z28
open PySem PySem.Spec PyProof.Rows L2 Hz
section
variable {P : Program} {w : World} {K : PySem.W.Frag} {mg : Str → Option Value} {base : Heap}
local macro_rules | `(tactic| walk_at "ut") => `(tactic| try dsimp only [tNil, tCons, List.append_nil, List.cons_append, List.nil_append])
local macro_rules | `(tactic| walk_at "uv") => `(tactic| try dsimp only [List.set_cons_zero, List.set_cons_succ])
/-- what is told of pots: all between fit, no others -/
def Out2 (h : Hill) (d a : Nat) (evs : List Nat) : Option (Int × Int) → Prop
  | none => ∀ p : Int, 0 ≤ p → p ≤ h.most → ¬ h.Fits ⟨d, a, p⟩ evs
  | some r => 0 ≤ r.1 ∧ r.1 ≤ r.2 ∧ r.2 ≤ h.most ∧ ∀ q : Int, 0 ≤ q → q ≤ h.most → (h.Fits ⟨d, a, q⟩ evs ↔ r.1 ≤ q ∧ q ≤ r.2)
theorem seen_in2 {H : Hp} {Q : VK} {E : XK} {t t2 : Bool} {h : Hill} {v w : V} {d a : Nat} {evs : List Nat} (hD : Dp K H v (h.dat t)) (hk : HillOk h) (od : h.isOpen d = true) (ha : a < h.needs.length) (hw : Dp K H w (sq t2 ((evs.map fun e : Nat => (e : Int)).map PyData.int))) (ri : Hill.Rise d evs) (ln : evs.length ≤ 1000)
    (k : ∀ r u H', Out2 h d a evs r → Val H H' r u → Ex [] H H' → Q u H') : spSeen K [v, .int d, .int a, w] H Q E :=
  ⟨t, t2, h, v, w, d, a, evs, rfl, hD, hk, od, ha, hw, ri, ln, fun H' no x => k none _ H' no rfl x, fun lo hi p H' l0 l1 l2 f hp hp' x => k (some (lo, hi)) _ H' ⟨l0, l1, l2, f⟩ ⟨p, rfl, hp, hp'⟩ x⟩
theorem out2_fit {h : Hill} {d a : Nat} {evs : List Nat} : ∀ {r : Option (Int × Int)} {q : Int}, Out2 h d a evs r → 0 ≤ q → q ≤ h.most → h.Fits ⟨d, a, q⟩ evs → ∃ lo hi, r = some (lo, hi) ∧ lo ≤ q ∧ q ≤ hi
  | none, q, x, a, b, f => absurd f (x q a b)
  | some (lo, hi), q, x, a, b, f => ⟨lo, hi, rfl, (x.2.2.2 q a b).mp f⟩
end
end Z28
set_option Elab.async false
set_option linter.all false
set_option maxRecDepth 100000
set_option maxHeartbeats 4000000
namespace Z28
open PySem PySem.Spec PyProof.Rows L2 Hz
/-- the hill by hand: s drops for one, a pot of M -/
def hillS (s M : Int) : Hill := ⟨[(2 * s, false), (0, true), (3 * s, true)], [2 * s], M⟩
section
variable {s M : Int} (s1 : 1 ≤ s) (s2 : s ≤ 10 ^ 10) (M0 : 0 ≤ M) (M1 : M ≤ 10 ^ 11)
theorem drops_S (s M : Int) : (hillS s M).drops = 5 * s := by show 2 * s + (0 + (3 * s + 0)) = _; omega
theorem L_S (s M : Int) : (hillS s M).L = 3 := rfl
include s1 s2 M0 M1 in
theorem ok_S : HillOk (hillS s M) := by
  have t10 : (10 : Int) ^ 10 = 10000000000 := by decide
  have t11 : (10 : Int) ^ 11 = 100000000000 := by decide
  have t12 : (10 : Int) ^ 12 = 1000000000000 := by decide
  have t14 : (10 : Int) ^ 14 = 100000000000000 := by decide
  refine ⟨by show 1 ≤ 3; decide, by show 3 ≤ 20; decide, fun d hd => ?_, ⟨(0, true), by show (0, true) ∈ [(2 * s, false), (0, true), (3 * s, true)]; simp, rfl⟩, by rw [drops_S]; omega, by show 1 ≤ 1; decide, by show 1 ≤ 20; decide, fun m hm => ?_, M0, by show M ≤ _; omega⟩
  · have hd' : d ∈ [(2 * s, false), (0, true), (3 * s, true)] := hd
    simp only [List.mem_cons, List.not_mem_nil, or_false] at hd'
    rcases hd' with rfl | rfl | rfl
    · exact ⟨by show 0 ≤ 2 * s; omega, by show 2 * s ≤ _; omega⟩
    · exact ⟨Int.le_refl _, by decide⟩
    · exact ⟨by show 0 ≤ 3 * s; omega, by show 3 * s ≤ _; omega⟩
  · have hm' : m ∈ [2 * s] := hm
    obtain rfl : m = 2 * s := by simpa using hm'
    exact ⟨by omega, by omega⟩
theorem given_S0 : (hillS s M).given 0 = 2 * s := by
  have e : (hillS s M).given 0 = ((1 / 3 : Nat) : Int) * (hillS s M).drops + (((hillS s M).year.take (1 % 3)).map (·.1)).sum := rfl
  rw [e]
  simp [hillS]
theorem given_S1 : (hillS s M).given 1 = 2 * s := by
  have e : (hillS s M).given 1 = ((2 / 3 : Nat) : Int) * (hillS s M).drops + (((hillS s M).year.take (2 % 3)).map (·.1)).sum := rfl
  rw [e]
  simp [hillS]
theorem given_S2 : (hillS s M).given 2 = 5 * s := by
  have e : (hillS s M).given 2 = ((3 / 3 : Nat) : Int) * (hillS s M).drops + (((hillS s M).year.take (3 % 3)).map (·.1)).sum := rfl
  rw [e, drops_S]
  simp [hillS]
theorem need_S (s M : Int) (i : Nat) : (hillS s M).need (i % (hillS s M).needs.length) = 2 * s := by
  have : (hillS s M).needs.length = 1 := rfl
  rw [this, Nat.mod_one]
  rfl
include s1 s2 M0 M1 in
theorem lost_lo {y : Int} (y0 : 0 < y) (y1 : y ≤ 2 * s) (k : Int) : (hillS s M).lostZ (y + k * (5 * s)) = max 0 (2 * s - M - y) := by
  have hk := ok_S s1 s2 M0 M1
  have d : (hillS s M).DayOf y 1 := ⟨rfl, by rw [given_S1]; omega, fun j hj ho => by
    obtain rfl : j = 0 := by omega
    exact absurd ho (by rw [show (hillS s M).isOpen 0 = false from rfl]; decide)⟩
  have := (Hill.lost_of (by omega) d).z hk.L0 hk.nn
  rw [show k * (5 * s) = k * (hillS s M).drops by rw [drops_S], Hill.lostZ_year hk.L0 hk.nn hk.op hk.dr, ← this, given_S1]
  rfl
include s1 s2 M0 M1 in
theorem lost_hi {y : Int} (y0 : 2 * s < y) (y1 : y ≤ 5 * s) (k : Int) : (hillS s M).lostZ (y + k * (5 * s)) = max 0 (5 * s - M - y) := by
  have hk := ok_S s1 s2 M0 M1
  have d : (hillS s M).DayOf y 2 := ⟨rfl, by rw [given_S2]; omega, fun j hj ho => by
    have : j = 0 ∨ j = 1 := by omega
    rcases this with rfl | rfl
    · exact absurd ho (by rw [show (hillS s M).isOpen 0 = false from rfl]; decide)
    · rw [given_S1]; omega⟩
  have := (Hill.lost_of (by omega) d).z hk.L0 hk.nn
  rw [show k * (5 * s) = k * (hillS s M).drops by rw [drops_S], Hill.lostZ_year hk.L0 hk.nn hk.op hk.dr, ← this, given_S2]
  rfl
include s1 s2 M0 M1 in
theorem back_same {y : Int} (z : (hillS s M).lostZ y = 0) : (hillS s M).Back y y := by
  have hk := ok_S s1 s2 M0 M1
  have p := Hill.lostZ_nn hk.L0 hk.nn hk.op hk.dr (y + 1)
  exact Hill.back_of hk.L0 hk.nn hk.op hk.dr (by omega) (by omega)
theorem late_S {a n : Nat} {y r r' : Int} (b : (hillS s M).Back y r) (l : (hillS s M).Late a n (r - 2 * s) r') : (hillS s M).Late a (n + 1) y r' := by
  refine Hill.late_step b ?_
  rw [need_S]
  exact l
end
section
variable {s : Int} (s1 : 1 ≤ s) (s2 : s ≤ 10 ^ 10)
include s1 s2
/-- two turns back, no pot -/
theorem two_back {n : Nat} {Y r : Int} (l : (hillS s 0).Late 0 n (3 * s + (Y - 1) * (5 * s)) r) : (hillS s 0).Late 0 (n + 2) (3 * s + Y * (5 * s)) r ∧ (hillS s 0).Late 0 (n + 2) (2 * s + Y * (5 * s)) r := by
  have o0 : (0 : Int) ≤ 0 := Int.le_refl _
  have o1 : (0 : Int) ≤ 10 ^ 11 := by decide
  have hk := ok_S s1 s2 o0 o1
  have e5 : (Y - 1) * (5 * s) = Y * (5 * s) - 5 * s := by rw [Int.sub_mul, Int.one_mul]
  have l2 : (hillS s 0).lostZ (2 * s + Y * (5 * s)) = 0 := by rw [lost_lo s1 s2 o0 o1 (by omega) (Int.le_refl _)]; omega
  have l5 : (hillS s 0).lostZ (Y * (5 * s)) = 0 := by
    have := lost_hi s1 s2 o0 o1 (y := 5 * s) (by omega) (Int.le_refl _) (Y - 1)
    rw [show 5 * s + (Y - 1) * (5 * s) = Y * (5 * s) by omega] at this
    rw [this]; omega
  have l21 : (hillS s 0).lostZ (2 * s + 1 + Y * (5 * s)) = 3 * s - 1 := by rw [lost_hi s1 s2 o0 o1 (by omega) (by omega)]; omega
  have b3 : (hillS s 0).Back (3 * s + Y * (5 * s)) (2 * s + Y * (5 * s)) := Hill.back_of hk.L0 hk.nn hk.op hk.dr (by omega) (by rw [show 2 * s + Y * (5 * s) + 1 = 2 * s + 1 + Y * (5 * s) by omega, l21]; omega)
  have b2 := back_same s1 s2 o0 o1 l2
  have b5 := back_same s1 s2 o0 o1 l5
  have tail : (hillS s 0).Late 0 (n + 1) (Y * (5 * s)) r := late_S b5 (by rw [show Y * (5 * s) - 2 * s = 3 * s + (Y - 1) * (5 * s) by omega]; exact l)
  have e : 2 * s + Y * (5 * s) - 2 * s = Y * (5 * s) := by omega
  exact ⟨late_S b3 (by rw [e]; exact tail), late_S b2 (by rw [e]; exact tail)⟩
theorem many_back : ∀ (c : Nat) (Y : Int), (hillS s 0).Late 0 (2 * c) (3 * s + Y * (5 * s)) (3 * s + (Y - c) * (5 * s))
  | 0, Y => by rw [show Y - ((0 : Nat) : Int) = Y by omega]; exact Hill.late_zero
  | c + 1, Y => by
    have := (two_back s1 s2 (many_back c (Y - 1))).1
    rw [show Y - 1 - (c : Int) = Y - ((c + 1 : Nat) : Int) by omega] at this
    exact this
theorem bare_back (c : Nat) (Y : Int) : (hillS s 0).Late 0 (2 * (c + 1)) (2 * s + Y * (5 * s)) (3 * s + (Y - ((c + 1 : Nat) : Int)) * (5 * s)) := by
  have := (two_back s1 s2 (many_back s1 s2 c (Y - 1))).2
  rw [show Y - 1 - (c : Int) = Y - ((c + 1 : Nat) : Int) by omega] at this
  exact this
theorem bare_one (Y : Int) : (hillS s 0).Late 0 1 (2 * s + Y * (5 * s)) (2 * s + Y * (5 * s) - 2 * s) := by
  have o0 : (0 : Int) ≤ 0 := Int.le_refl _
  have o1 : (0 : Int) ≤ 10 ^ 11 := by decide
  have l2 : (hillS s 0).lostZ (2 * s + Y * (5 * s)) = 0 := by rw [lost_lo s1 s2 o0 o1 (by omega) (Int.le_refl _)]; omega
  exact late_S (n := 0) (back_same s1 s2 o0 o1 l2) Hill.late_zero
end
end Z28
set_option Elab.async false
set_option linter.all false
set_option maxRecDepth 100000
set_option maxHeartbeats 4000000
namespace Z28
open PySem PySem.Spec PyProof.Rows L2 Hz
theorem out2_uniq {h : Hill} {d a : Nat} {evs : List Nat} : ∀ {r r' : Option (Int × Int)}, Out2 h d a evs r → Out2 h d a evs r' → r = r'
  | none, none, _, _ => rfl
  | none, some (a, b), x, ⟨y1, y2, y3, y4⟩ => by
    have y1' : 0 ≤ a := y1
    have y2' : a ≤ b := y2
    have y3' : b ≤ h.most := y3
    exact absurd ((y4 a y1' (by omega)).mpr ⟨Int.le_refl _, y2⟩) (x a y1' (by omega))
  | some (a, b), none, ⟨y1, y2, y3, y4⟩, x => by
    have y1' : 0 ≤ a := y1
    have y2' : a ≤ b := y2
    have y3' : b ≤ h.most := y3
    exact absurd ((y4 a y1' (by omega)).mpr ⟨Int.le_refl _, y2⟩) (x a y1' (by omega))
  | some (a, b), some (c, d), ⟨x1, x2, x3, x4⟩, ⟨y1, y2, y3, y4⟩ => by
    have x1 : 0 ≤ a := x1
    have x2 : a ≤ b := x2
    have x3 : b ≤ h.most := x3
    have y1 : 0 ≤ c := y1
    have y2 : c ≤ d := y2
    have y3 : d ≤ h.most := y3
    have := (y4 a x1 (by omega)).mp ((x4 a x1 (by omega)).mpr ⟨Int.le_refl _, x2⟩)
    have := (y4 b (by omega) x3).mp ((x4 b (by omega) x3).mpr ⟨x2, Int.le_refl _⟩)
    have := (x4 c y1 (by omega)).mp ((y4 c y1 (by omega)).mpr ⟨Int.le_refl _, y2⟩)
    have := (x4 d (by omega) y3).mp ((y4 d (by omega) y3).mpr ⟨y2, Int.le_refl _⟩)
    have : c ≤ a ∧ a ≤ d := by assumption
    have e1 : a = c := by omega
    have e2 : b = d := by omega
    rw [e1, e2]
section
variable {s : Int} (s1 : 1 ≤ s) (s2 : s ≤ 10 ^ 10) (Y : Nat)
abbrev hP (s : Int) : Hill := hillS s (2 * s)
abbrev gP (s : Int) (Y : Nat) : Int := 2 * s + (Y : Int) * (5 * s)
theorem given_P1 (Y : Nat) : (hP s).given (1 + 3 * Y) = gP s Y := by
  rw [show 1 + 3 * Y = 1 + Y * (hP s).L by rw [L_S]; omega, Hill.given_year (by rw [L_S]; decide), given_S1, drops_S]
theorem given_P2 (Y : Nat) : (hP s).given (1 + 3 * Y + 1) = gP s Y + 3 * s := by
  rw [show 1 + 3 * Y + 1 = 2 + Y * (hP s).L by rw [L_S]; omega, Hill.given_year (by rw [L_S]; decide), given_S2, drops_S]
  have eg : gP s Y = 2 * s + (Y : Int) * (5 * s) := rfl
  omega
theorem given_P4 (Y : Nat) : (hP s).given (1 + 3 * Y + 3) = gP s Y + 5 * s := by
  rw [show 1 + 3 * Y + 3 = 1 + (Y + 1) * (hP s).L by rw [L_S]; omega, Hill.given_year (by rw [L_S]; decide), given_S1, drops_S, Int.natCast_add, Int.add_mul]
  have eg : gP s Y = 2 * s + (Y : Int) * (5 * s) := rfl
  omega
theorem nx1 : (0 + 1) % (hP s).needs.length = 0 := Nat.mod_one _
theorem inI2 {x a b c d : Int} : (hP s).InI 0 x [(a, b), (c, d)] ↔ a < x ∧ x ≤ b ∧ c < (hP s).ledZ 0 x ∧ (hP s).ledZ 0 x ≤ d := by
  simp only [Hill.InI, nx1, and_true]
theorem inI3 {x a b c d e f : Int} : (hP s).InI 0 x [(a, b), (c, d), (e, f)] ↔ a < x ∧ x ≤ b ∧ c < (hP s).ledZ 0 x ∧ (hP s).ledZ 0 x ≤ d ∧ e < (hP s).ledZ 0 ((hP s).ledZ 0 x) ∧ (hP s).ledZ 0 ((hP s).ledZ 0 x) ≤ f := by
  simp only [Hill.InI, nx1, and_true]
theorem most_P : (hP s).most = 2 * s := rfl
theorem open_P1 (Y : Nat) : (hP s).isOpen (1 + 3 * Y) = true := by
  rw [show 1 + 3 * Y = 1 + Y * (hP s).L by rw [L_S]; omega, Hill.isOpen_year]; rfl
theorem open_P2 (Y : Nat) : (hP s).isOpen (1 + 3 * Y + 1) = true := by
  rw [show 1 + 3 * Y + 1 = 2 + Y * (hP s).L by rw [L_S]; omega, Hill.isOpen_year]; rfl
theorem open_P3 (Y : Nat) : (hP s).isOpen (1 + 3 * Y + 2) = false := by
  rw [show 1 + 3 * Y + 2 = 0 + (Y + 1) * (hP s).L by rw [L_S]; omega, Hill.isOpen_year]; rfl
theorem open_P4 (Y : Nat) : (hP s).isOpen (1 + 3 * Y + 3) = true := by
  rw [show 1 + 3 * Y + 3 = 1 + (Y + 1) * (hP s).L by rw [L_S]; omega, Hill.isOpen_year]; rfl
include s1 s2
theorem okP : HillOk (hP s) := by
  have t10 : (10 : Int) ^ 10 = 10000000000 := by decide
  have t11 : (10 : Int) ^ 11 = 100000000000 := by decide
  exact ok_S s1 s2 (by omega) (by omega)
theorem losL {y : Int} (y0 : 0 < y) (y1 : y ≤ 2 * s) (k : Int) : (hP s).lostZ (y + k * (5 * s)) = 0 := by
  have t10 : (10 : Int) ^ 10 = 10000000000 := by decide
  have t11 : (10 : Int) ^ 11 = 100000000000 := by decide
  rw [lost_lo s1 s2 (by omega) (by omega) y0 y1]; omega
theorem losH {y : Int} (y0 : 2 * s < y) (y1 : y ≤ 5 * s) (k : Int) : (hP s).lostZ (y + k * (5 * s)) = max 0 (3 * s - y) := by
  have t10 : (10 : Int) ^ 10 = 10000000000 := by decide
  have t11 : (10 : Int) ^ 11 = 100000000000 := by decide
  rw [lost_hi s1 s2 (by omega) (by omega) y0 y1]; omega
theorem backP {y : Int} (z : (hP s).lostZ y = 0) : (hP s).Back y y := by
  have t10 : (10 : Int) ^ 10 = 10000000000 := by decide
  have t11 : (10 : Int) ^ 11 = 100000000000 := by decide
  exact back_same s1 s2 (by omega) (by omega) z
/-- the lines behind one turn, behind two, by the pot -/
theorem ledP {p : Int} (p0 : 0 ≤ p) (p1 : p ≤ 2 * s) : ∃ f : Int, (hP s).ledZ 0 (gP s Y - p) = gP s Y + f ∧ (hP s).ledZ 0 (gP s Y + f) = gP s Y + f + 2 * s ∧ ((p = 2 * s ∧ f = 0) ∨ (s ≤ p ∧ p < 2 * s ∧ f = s) ∨ (p < s ∧ f = 2 * s - p)) := by
  have en : (hP s).need 0 = 2 * s := rfl
  have eg : gP s Y = 2 * s + (Y : Int) * (5 * s) := rfl
  have e5 : ((Y : Int) + 1) * (5 * s) = Y * (5 * s) + 5 * s := by rw [Int.add_mul, Int.one_mul]
  by_cases c : p = 2 * s
  · refine ⟨0, ?_, ?_, .inl ⟨c, rfl⟩⟩
    · unfold Hill.ledZ
      rw [en, show gP s Y - p + 2 * s = 2 * s + (Y : Int) * (5 * s) by omega, losL s1 s2 (by omega) (Int.le_refl _), eg]
      try omega
    · have : (hP s).lostZ (gP s Y + 0 + 2 * s) = 0 := by
        rw [show gP s Y + 0 + 2 * s = 4 * s + (Y : Int) * (5 * s) by omega, losH s1 s2 (by omega) (by omega)]
        omega
      unfold Hill.ledZ
      rw [en, this]
      omega
  · have a : (hP s).ledZ 0 (gP s Y - p) = gP s Y - p + 2 * s + max 0 (p - s) := by
      have : (hP s).lostZ (gP s Y - p + 2 * s) = max 0 (p - s) := by
        rw [show gP s Y - p + 2 * s = (4 * s - p) + (Y : Int) * (5 * s) by omega, losH s1 s2 (by omega) (by omega)]
        omega
      unfold Hill.ledZ
      rw [en, this]
    by_cases c2 : s ≤ p
    · refine ⟨s, by rw [a]; omega, ?_, .inr (.inl ⟨c2, by omega, rfl⟩)⟩
      have : (hP s).lostZ (gP s Y + s + 2 * s) = 0 := by
        rw [show gP s Y + s + 2 * s = 5 * s + (Y : Int) * (5 * s) by omega, losH s1 s2 (by omega) (by omega)]
        omega
      unfold Hill.ledZ
      rw [en, this]
      omega
    · refine ⟨2 * s - p, by rw [a]; omega, ?_, .inr (.inr ⟨by omega, rfl⟩)⟩
      have : (hP s).lostZ (gP s Y + (2 * s - p) + 2 * s) = 0 := by
        rw [show gP s Y + (2 * s - p) + 2 * s = (s - p) + ((Y : Int) + 1) * (5 * s) by omega, losL s1 s2 (by omega) (by omega)]
      unfold Hill.ledZ
      rw [en, this]
      omega
theorem lateP1 : (hP s).Late 0 1 (gP s Y) (gP s Y - 2 * s) := late_S (n := 0) (backP s1 s2 (losL s1 s2 (by omega) (Int.le_refl _) _)) Hill.late_zero
theorem lateP2 : (hP s).Late 0 2 (gP s Y) (gP s Y - 4 * s) := by
  have e5 : ((Y : Int) - 1) * (5 * s) = Y * (5 * s) - 5 * s := by rw [Int.sub_mul, Int.one_mul]
  have eg : gP s Y = 2 * s + (Y : Int) * (5 * s) := rfl
  have b : (hP s).Back (gP s Y - 2 * s) (gP s Y - 2 * s) := backP s1 s2 (by
    rw [show gP s Y - 2 * s = 5 * s + ((Y : Int) - 1) * (5 * s) by omega, losH s1 s2 (by omega) (Int.le_refl _)]; omega)
  exact late_S (n := 1) (backP s1 s2 (losL s1 s2 (by omega) (Int.le_refl _) _)) (late_S (n := 0) b (by rw [show gP s Y - 2 * s - 2 * s = gP s Y - 4 * s by omega]; exact Hill.late_zero))
theorem b3 : (hP s).Back (gP s Y + 3 * s) (gP s Y + 3 * s) := backP s1 s2 (by
  have eg : gP s Y = 2 * s + (Y : Int) * (5 * s) := rfl
  rw [show gP s Y + 3 * s = 5 * s + (Y : Int) * (5 * s) by omega, losH s1 s2 (by omega) (Int.le_refl _)]; omega)
theorem b1 : (hP s).Back (gP s Y + s) (gP s Y + s) := backP s1 s2 (by
  have eg : gP s Y = 2 * s + (Y : Int) * (5 * s) := rfl
  rw [show gP s Y + s = 3 * s + (Y : Int) * (5 * s) by omega, losH s1 s2 (by omega) (by omega)]; omega)
theorem bm : (hP s).Back (gP s Y - s) (gP s Y - s) := backP s1 s2 (by
  have eg : gP s Y = 2 * s + (Y : Int) * (5 * s) := rfl
  rw [show gP s Y - s = s + (Y : Int) * (5 * s) by omega, losL s1 s2 (by omega) (by omega)])
theorem lateQ1 : (hP s).Late 0 1 (gP s Y + 3 * s) (gP s Y + s) := late_S (n := 0) (b3 s1 s2 Y) (by rw [show gP s Y + 3 * s - 2 * s = gP s Y + s by omega]; exact Hill.late_zero)
theorem lateQ2 : (hP s).Late 0 2 (gP s Y + 3 * s) (gP s Y - s) := late_S (n := 1) (b3 s1 s2 Y) (by
  rw [show gP s Y + 3 * s - 2 * s = gP s Y + s by omega]
  exact late_S (n := 0) (b1 s1 s2 Y) (by rw [show gP s Y + s - 2 * s = gP s Y - s by omega]; exact Hill.late_zero))
theorem lateQ3 : (hP s).Late 0 3 (gP s Y + 3 * s) (gP s Y - 3 * s) := late_S (n := 2) (b3 s1 s2 Y) (by
  rw [show gP s Y + 3 * s - 2 * s = gP s Y + s by omega]
  exact late_S (n := 1) (b1 s1 s2 Y) (by
    rw [show gP s Y + s - 2 * s = gP s Y - s by omega]
    exact late_S (n := 0) (bm s1 s2 Y) (by rw [show gP s Y - s - 2 * s = gP s Y - 3 * s by omega]; exact Hill.late_zero)))
/-- pots by their bounds -/
theorem out_S {evs : List Nat} {bs : List (Int × Int)} (ri : Hill.Rise (1 + 3 * Y) evs) (y : (hP s).Bs ((hP s).given (1 + 3 * Y) - (hP s).most - 1) (1 + 3 * Y) evs bs) {lo hi : Int} (l0 : 0 ≤ lo) (l1 : lo ≤ hi) (l2 : hi ≤ 2 * s)
    (k : ∀ p f : Int, 0 ≤ p → p ≤ 2 * s → ((p = 2 * s ∧ f = 0) ∨ (s ≤ p ∧ p < 2 * s ∧ f = s) ∨ (p < s ∧ f = 2 * s - p)) → (hP s).ledZ 0 (gP s Y - p) = gP s Y + f → (hP s).ledZ 0 (gP s Y + f) = gP s Y + f + 2 * s → ((hP s).InI 0 (gP s Y - p) ((gP s Y - 2 * s - 1, gP s Y) :: bs) ↔ lo ≤ p ∧ p ≤ hi)) : Out2 (hP s) (1 + 3 * Y) 0 evs (some (lo, hi)) := by
  have hk := okP s1 s2
  refine ⟨l0, l1, l2, fun q q0 q1 => ?_⟩
  obtain ⟨f, e1, e2, e3⟩ := ledP s1 s2 Y q0 q1
  rw [Hill.seen_pots hk.L0 hk.nn hk.op hk.dr hk.m0 hk.nn0 (open_P1 Y) (by show 0 < 1; decide) ri y q0 q1, given_P1, ← k q f q0 q1 e3 e1 e2]
  exact Iff.rfl
theorem out_N {evs : List Nat} {bs : List (Int × Int)} (ri : Hill.Rise (1 + 3 * Y) evs) (y : (hP s).Bs ((hP s).given (1 + 3 * Y) - (hP s).most - 1) (1 + 3 * Y) evs bs)
    (k : ∀ p f : Int, 0 ≤ p → p ≤ 2 * s → ((p = 2 * s ∧ f = 0) ∨ (s ≤ p ∧ p < 2 * s ∧ f = s) ∨ (p < s ∧ f = 2 * s - p)) → (hP s).ledZ 0 (gP s Y - p) = gP s Y + f → (hP s).ledZ 0 (gP s Y + f) = gP s Y + f + 2 * s → ¬ (hP s).InI 0 (gP s Y - p) ((gP s Y - 2 * s - 1, gP s Y) :: bs)) : Out2 (hP s) (1 + 3 * Y) 0 evs none := by
  have hk := okP s1 s2
  intro q q0 q1
  obtain ⟨f, e1, e2, e3⟩ := ledP s1 s2 Y q0 q1
  rw [Hill.seen_pots hk.L0 hk.nn hk.op hk.dr hk.m0 hk.nn0 (open_P1 Y) (by show 0 < 1; decide) ri y q0 q1, given_P1]
  exact k q f q0 q1 e3 e1 e2
theorem out0 : Out2 (hP s) (1 + 3 * Y) 0 [] (some (0, 2 * s)) := out_S s1 s2 Y (evs := []) (bs := []) trivial rfl (by omega) (by omega) (by omega) fun p f p0 p1 e3 e1 e2 => ⟨fun _ => ⟨p0, p1⟩, fun _ => ⟨by show gP s Y - 2 * s - 1 < _; omega, by show _ ≤ gP s Y; omega, trivial⟩⟩
theorem out1 : Out2 (hP s) (1 + 3 * Y) 0 [1 + 3 * Y] (some (2 * s, 2 * s)) := by
  refine out_S s1 s2 Y (evs := [1 + 3 * Y]) (bs := [((hP s).given (1 + 3 * Y) - (hP s).most - 1, (hP s).given (1 + 3 * Y))]) ⟨Nat.le_refl _, trivial⟩ ⟨_, [], rfl, open_P1 Y, fun z => absurd z (by omega), fun _ => rfl, rfl⟩ (by omega) (Int.le_refl _) (Int.le_refl _) fun p f p0 p1 e3 e1 e2 => ?_
  rw [inI2, e1, given_P1]
  try simp only [most_P]
  omega
theorem out2 : Out2 (hP s) (1 + 3 * Y) 0 [1 + 3 * Y + 1] (some (0, 2 * s - 1)) := by
  refine out_S s1 s2 Y (evs := [1 + 3 * Y + 1]) (bs := [((hP s).given (1 + 3 * Y), (hP s).given (1 + 3 * Y + 1))]) ⟨by omega, trivial⟩ ⟨_, [], rfl, open_P2 Y, fun _ => ⟨1 + 3 * Y, Hill.until_self (open_P1 Y), rfl⟩, fun z => absurd (show 1 + 3 * Y < 1 + 3 * Y + 1 by omega) z, rfl⟩ (by omega) (by omega) (by omega) fun p f p0 p1 e3 e1 e2 => ?_
  rw [inI2, e1, given_P1, given_P2]
  try simp only [most_P]
  omega
theorem out3 : Out2 (hP s) (1 + 3 * Y) 0 [1 + 3 * Y, 1 + 3 * Y] none := by
  refine out_N s1 s2 Y (evs := [1 + 3 * Y, 1 + 3 * Y]) (bs := [((hP s).given (1 + 3 * Y) - (hP s).most - 1, (hP s).given (1 + 3 * Y)), ((hP s).given (1 + 3 * Y) - (hP s).most - 1, (hP s).given (1 + 3 * Y))]) ⟨Nat.le_refl _, Nat.le_refl _, trivial⟩ ⟨_, _, rfl, open_P1 Y, fun z => absurd z (by omega), fun _ => rfl, _, [], rfl, open_P1 Y, fun z => absurd z (by omega), fun _ => rfl, rfl⟩ fun p f p0 p1 e3 e1 e2 => ?_
  rw [inI3, e1, e2, given_P1]
  try simp only [most_P]
  omega
theorem out4 : Out2 (hP s) (1 + 3 * Y) 0 [1 + 3 * Y + 1, 1 + 3 * Y + 1] (some (s, 2 * s - 1)) := by
  refine out_S s1 s2 Y (evs := [1 + 3 * Y + 1, 1 + 3 * Y + 1]) (bs := [((hP s).given (1 + 3 * Y), (hP s).given (1 + 3 * Y + 1)), ((hP s).given (1 + 3 * Y) - (hP s).most - 1, (hP s).given (1 + 3 * Y + 1))]) ⟨by omega, Nat.le_refl _, trivial⟩ ⟨_, _, rfl, open_P2 Y, fun _ => ⟨1 + 3 * Y, Hill.until_self (open_P1 Y), rfl⟩, fun z => absurd (show 1 + 3 * Y < 1 + 3 * Y + 1 by omega) z, _, [], rfl, open_P2 Y, fun z => absurd z (by omega), fun _ => rfl, rfl⟩ (by omega) (by omega) (by omega) fun p f p0 p1 e3 e1 e2 => ?_
  rw [inI3, e1, e2, given_P1, given_P2]
  try simp only [most_P]
  omega
theorem until_P3 : (hP s).Until (1 + 3 * Y + 2) (1 + 3 * Y + 1) := ⟨by omega, open_P2 Y, fun k a b => by rw [show k = 1 + 3 * Y + 2 by omega]; exact open_P3 Y⟩
theorem out5 : Out2 (hP s) (1 + 3 * Y) 0 [1 + 3 * Y + 1, 1 + 3 * Y + 3] (some (0, s - 1)) := by
  refine out_S s1 s2 Y (evs := [1 + 3 * Y + 1, 1 + 3 * Y + 3]) (bs := [((hP s).given (1 + 3 * Y), (hP s).given (1 + 3 * Y + 1)), ((hP s).given (1 + 3 * Y + 1), (hP s).given (1 + 3 * Y + 3))]) ⟨by omega, by omega, trivial⟩ ⟨_, _, rfl, open_P2 Y, fun _ => ⟨1 + 3 * Y, Hill.until_self (open_P1 Y), rfl⟩, fun z => absurd (show 1 + 3 * Y < 1 + 3 * Y + 1 by omega) z, _, [], rfl, open_P4 Y, fun _ => ⟨1 + 3 * Y + 1, until_P3 s1 s2 Y, rfl⟩, fun z => absurd (show 1 + 3 * Y + 1 < 1 + 3 * Y + 3 by omega) z, rfl⟩ (by omega) (by omega) (by omega) fun p f p0 p1 e3 e1 e2 => ?_
  rw [inI3, e1, e2, given_P1, given_P2, given_P4]
  try simp only [most_P]
  omega
theorem out6 : Out2 (hP s) (1 + 3 * Y) 0 [1 + 3 * Y + 2] none := fun p p0 p1 f => by
  have hk := okP s1 s2
  obtain ⟨l, x, e⟩ := Hill.rows_ex hk.L0 hk.nn hk.op hk.dr hk.m0 hk.nn0 1 (s := ⟨1 + 3 * Y, 0, p⟩) ⟨open_P1 Y, by show 0 < 1; decide, p0, p1⟩
  have hm := f l x e
  have mem : (1 + 3 * Y + 2) ∈ l.map fun r => r.1.day := by rw [hm]; simp
  obtain ⟨r, hr, er⟩ := List.mem_map.mp mem
  have := (Hill.rows_mem hk.m0 (s := ⟨1 + 3 * Y, 0, p⟩) ⟨open_P1 Y, by show 0 < 1; decide, p0, p1⟩ x r hr).op
  rw [er, open_P3] at this
  cases this
end
end Z28
set_option Elab.async false
set_option linter.all false
namespace Hz
open PySem PyProof.Rows L2
variable {K : PySem.W.Frag}
theorem range_get {α : Type} (l : List α) : (List.range l.length).filterMap (fun i => l[i]?) = l := by
  have h : ∀ n, n ≤ l.length → (List.range n).filterMap (fun i => l[i]?) = l.take n := fun n => by
    induction n with
    | zero => intro _; simp
    | succ n ih =>
      intro hn
      rw [List.range_succ, List.filterMap_append, ih (by omega), List.take_add_one]
      congr 1
  rw [h _ (Nat.le_refl _), List.take_length]
/-- a comprehension with no test over a tuple told: of each item the data -/
theorem z_lcTD {g : TG} {te : TE} {vs : List Nat} {σ : L2.St} {H : Hp} {xs : List V} {tl : TE} {Q : VK} (htl : ∀ R : VK, (∀ a H1, Ex [] H H1 → SqT K H1 a xs → R (.ref a) H1) → tl σ H R) (hn : xs.length < 100000) (ds : List PyData) (hl : ds.length = xs.length)
    (turn : ∀ H1, Ex [] H H1 → ∀ (i : Nat) x d, xs[i]? = some x → ds[i]? = some d → ∀ D H', H' D ≠ none → Ex [] H1 H' → ∀ (N : VK), (∀ z H3, Ex [] H' H3 → Dp K (wo [D] H3) z d → N z H3) →
      g x (wipe σ vs) H' fun σ2 H2 => wipe σ2 vs = wipe σ vs ∧ te σ2 H2 N)
    (fin : ∀ D H', H D = none → Dp K H' (.ref D) (.list ds) → Ex [] H H' → Q (.ref D) H') : tLc (iTup K tl) g tYes te vs σ H Q := by
  have lt : ∀ {i : Nat} {x : V}, xs[i]? = some x → i < xs.length := fun h => by
    obtain ⟨h, _⟩ := List.getElem?_eq_some_iff.mp h
    exact h
  have core : ∀ H1, Ex [] H H1 → ∀ D, H1 D = none → ∀ i x, xs[i]? = some x → ∀ H', (Ex [] H1 H' ∧ ∃ zs, H' D = some (.lst zs) ∧ zs.length ≤ i ∧ DpAll K (wo [D] H') zs ((List.range i).filterMap (fun i => ds[i]?))) →
      g x (wipe σ vs) H' fun σ2 H2 => wipe σ2 vs = wipe σ vs ∧ tYes σ2 H2 fun b H3 => if b = true then te σ2 H3 fun y H4 => ∃ acc, H4 D = some (.lst acc) ∧ acc.length < sizeLine ∧ (Ex [] H1 (upd H4 D (.lst (acc ++ [y]))) ∧ ∃ zs, upd H4 D (.lst (acc ++ [y])) D = some (.lst zs) ∧ zs.length ≤ i + 1 ∧ DpAll K (wo [D] (upd H4 D (.lst (acc ++ [y])))) zs ((List.range (i + 1)).filterMap (fun i => ds[i]?))) else (Ex [] H1 H3 ∧ ∃ zs, H3 D = some (.lst zs) ∧ zs.length ≤ i + 1 ∧ DpAll K (wo [D] H3) zs ((List.range (i + 1)).filterMap (fun i => ds[i]?))) := fun H1 x1 D hD i x hx H' hP => by
    obtain ⟨e1, zs, hz, lz, hA⟩ := hP
    have up : ∀ {G G' : Hp} {o : HO}, Ex [] G G' → Le (wo [D] G) (wo [D] (upd G' D o)) := fun x a o q => by
      obtain ⟨n1, n2⟩ := wo_some q
      exact wo_of n1 (by rw [upd_ne (fun z => n1 (by rw [z]; exact List.mem_cons_self))]; exact x.1 _ _ (by simp) n2)
    have nn : H' D ≠ none := by rw [hz]; exact fun z => by cases z
    have hd : ds[i]? = some (ds[i]'(by rw [hl]; exact lt hx)) := List.getElem?_eq_getElem _
    have := turn H1 x1 i x _ hx hd D H' nn e1 (fun y H4 => ∃ acc, H4 D = some (.lst acc) ∧ acc.length < sizeLine ∧ (Ex [] H1 (upd H4 D (.lst (acc ++ [y]))) ∧ ∃ zs, upd H4 D (.lst (acc ++ [y])) D = some (.lst zs) ∧ zs.length ≤ i + 1 ∧ DpAll K (wo [D] (upd H4 D (.lst (acc ++ [y])))) zs ((List.range (i + 1)).filterMap (fun i => ds[i]?)))) (fun z H3 x3 hz3 => ?_)
    · simpa only [tYes, if_true, eq_self] using this
    · refine ⟨zs, x3.1 _ _ (by simp) hz, sz_lt (by have := lt hx; omega), (e1.trans x3).mutNew' hD, zs ++ [z], upd_same, by rw [List.length_append, List.length_singleton]; omega, ?_⟩
      rw [List.range_succ, List.filterMap_append, List.filterMap_cons, hd, List.filterMap_nil]
      exact dpa_snoc (dpa_le (up x3) _ _ hA) (dp_le (up (Ex.refl _ _)) _ _ hz3)
  have start : ∀ H1, ∀ D, H1 D = none → (Ex [] H1 (upd H1 D (.lst [])) ∧ ∃ zs, upd H1 D (.lst []) D = some (.lst zs) ∧ zs.length ≤ 0 ∧ DpAll K (wo [D] (upd H1 D (.lst []))) zs ((List.range 0).filterMap (fun i => ds[i]?))) := fun H1 D hD => ⟨Ex.new hD, [], upd_same, Nat.le_refl _, .nil⟩
  exact htl _ fun a H1 x1 hS => ⟨a, rfl, ⟨xs, hS⟩, fun D hD => lc_tup (fun i H' => Ex [] H1 H' ∧ ∃ zs, H' D = some (.lst zs) ∧ zs.length ≤ i ∧ DpAll K (wo [D] H') zs ((List.range i).filterMap (fun i => ds[i]?))) (start H1 D hD) (fun i H' _ p => le_t p.1.le0 hS) (fun i x H' hx p => core H1 x1 D hD i x hx H' p) (fun H' p => by
    obtain ⟨e1, zs, hz, lz, hA⟩ := p
    rw [← hl, range_get] at hA
    exact fin D H' (x1.free hD) (.lst (SqL.of hz) (dpa_le (wo_le _ _) _ _ hA)) (x1.trans e1))⟩
theorem lc_bindT {g : TG} {tt : TT} {te : TE} {vs : List Nat} {σ : L2.St} {H : Hp} {Q : VK} {tl : TE} (h : tl σ H fun x H1 => tLc (iTup K (tC x)) g tt te vs σ H1 Q) : tLc (fun σ H R => iList K tl σ H R ∨ iTup K tl σ H R) g tt te vs σ H Q := .inr h
end Hz
set_option Elab.async false
set_option linter.all false
set_option maxRecDepth 100000
set_option maxHeartbeats 4000000
namespace Z28
open PySem PySem.Spec PyProof.Rows L2 Hz
section
variable {P : Program} {w : World} {K : PySem.W.Frag} {mg : Str → Option Value} {base : Heap}
local macro_rules | `(tactic| walk_at "un") => `(tactic| try dsimp only [tSeq, tIfS, tRet, tAsg, tDrop, tOr, tAnd, tNot, tAndV, tOrV, tNotV, tTest, tB, tOp, tUn, tCB, tCons, tNil, tC, tNext, tIf, tChain, gName, tPar, tPar3, tTup, tLst])
local macro_rules | `(tactic| walk_at "ut") => `(tactic| dsimp only [tNil, tCons, List.append_nil, List.cons_append, List.nil_append])
def spHillOf (K : PySem.W.Frag) : Sp := fun vs H Q _ => ∃ (s c : Int), vs = [.int s, .int c] ∧ -(2 ^ 64) < c ∧ c < 2 ^ 64 ∧ ∀ p H', H p = none → Ex [] H H' → Dp K H' (.ref p) ((hillS s (c * s)).dat true) → Q (.ref p) H'
theorem ok_hill_of (T : Txt K mg) : FnOk P w K mg base CX0 1 T.a__law_hill_of T.d__law_hill_of P__law_hill_of (spHillOf K) := by
  have nd := sc__law_hill_of.nd
  refine T.F__law_hill_of.ok sc__law_hill_of (fun vs H Q E h => ?_) (fun cdv A outer s H vs Q E hr h => ?_)
  · obtain ⟨s, c, rfl, _⟩ := h
    rfl
  · obtain ⟨x, c, rfl, c0, c1, q⟩ := h
    refine ⟨_, (pss_one (ps_ret (pe_tup (pa_cons (pe_tup (pa_cons (pe_tup (pa_cons (pe_op op_mul pe_int (pv 0)) (pa_cons pe_bl pa_nil))) (pa_cons (pe_tup (pa_cons pe_int (pa_cons pe_bl pa_nil))) (pa_cons (pe_tup (pa_cons (pe_op op_mul pe_int (pv 0)) (pa_cons pe_bl pa_nil))) pa_nil)))) (pa_cons (pe_tup (pa_cons (pe_op op_mul pe_int (pv 0)) pa_nil)) (pa_cons (pe_op op_mul (pv 1) (pv 0)) pa_nil)))))), ?_⟩
    walk_at "un"
    have l1 : 1 ≤ sizeLine := by decide
    have l2 : 2 ≤ sizeLine := by decide
    have l3 : 3 ≤ sizeLine := by decide
    have p64 : (2 : Int) ^ 64 = 18446744073709551616 := by decide
    have m : ∀ k : Int, -(2 ^ 64) < k → k < 2 ^ 64 → CMul k x := fun k a b => .inl ⟨a, b⟩
    refine ⟨_, rfl, _, _, rfl, rfl, m 2 (by decide) (by decide), l2, fun p1 h1 => ⟨l2, fun p2 h2 => ⟨_, rfl, _, _, rfl, rfl, m 3 (by decide) (by decide), l2, fun p3 h3 => ⟨l3, fun p4 h4 =>
      ⟨_, rfl, _, _, rfl, rfl, m 2 (by decide) (by decide), l1, fun p5 h5 => ⟨_, rfl, _, rfl, _, _, rfl, rfl, m c c0 c1, l3, fun p6 h6 => q p6 _ ?_ ?_ ?_⟩⟩⟩⟩⟩⟩
    · exact upd_free (upd_free (upd_free (upd_free (upd_free h6))))
    · exact ((((((Ex.refl [] H).trans (Ex.new h1)).trans (Ex.new h2)).trans (Ex.new h3)).trans (Ex.new h4)).trans (Ex.new h5)).trans (Ex.new h6)
    · have e6 := (Ex.new (B := []) (o := HO.tup [.ref p4, .ref p5, .int (c * x)]) h6)
      have e5 := (Ex.new (B := []) (o := HO.tup [.int (2 * x)]) h5).trans e6
      have e4 := (Ex.new (B := []) (o := HO.tup [.ref p1, .ref p2, .ref p3]) h4).trans e5
      have e3 := (Ex.new (B := []) (o := HO.tup [.int (3 * x), .bl true]) h3).trans e4
      have e2 := (Ex.new (B := []) (o := HO.tup [.int 0, .bl true]) h2).trans e3
      have g1 := e2.get (a := p1) (by simp) upd_same
      have g2 := e3.get (a := p2) (by simp) upd_same
      have g3 := e4.get (a := p3) (by simp) upd_same
      have g4 := e5.get (a := p4) (by simp) upd_same
      have g5 := e6.get (a := p5) (by simp) upd_same
      exact .tup (SqT.of upd_same) (.cons (.tup (SqT.of g4) (.cons (.tup (SqT.of g1) (.cons (.int _) (.cons (.bl _) .nil))) (.cons (.tup (SqT.of g2) (.cons (.int _) (.cons (.bl _) .nil))) (.cons (.tup (SqT.of g3) (.cons (.int _) (.cons (.bl _) .nil))) .nil)))) (.cons (.tup (SqT.of g5) (dpa_of_ints [2 * x])) (.cons (.int _) .nil)))
def spBare (K : PySem.W.Frag) : Sp := fun vs H Q _ => ∃ (v : V) (s : Int) (c Y : Nat), vs = [v, .int s, .int c, .int Y] ∧ Dp K H v ((hillS s 0).dat true) ∧ 1 ≤ s ∧ s ≤ 10 ^ 10 ∧ 1 ≤ c ∧ c ≤ 200 ∧ ∀ H', Ex [] H H' → Q (.bl true) H'
theorem ok_bare (T : Txt K mg) : FnOk P w K mg base CX0 6 T.a__law_bare_right T.d__law_bare_right P__law_bare_right (spBare K) := by
  have nd := sc__law_bare_right.nd
  have G_latest_line := ok_latest_line (P := P) (w := w) (base := base) T
  have G__law_same := ok_same (P := P) (w := w) (base := base) T 2
  refine T.F__law_bare_right.ok sc__law_bare_right (fun vs H Q E h => ?_) (fun cdv A outer s H vs Q E hr h => ?_)
  · obtain ⟨v, x, c, Y, rfl, _⟩ := h
    rfl
  · obtain ⟨v, x, c, Y, rfl, hD, s1, s2, c1, c2, q⟩ := h
    have hr_latest_line := hr
    have hr__law_same := hr.mono (show 3 ≤ 5 by decide)
    have s3 : x ≤ 10000000000 := s2
    have p64 : (2 : Int) ^ 64 = 18446744073709551616 := by decide
    have hk : HillOk (hillS x 0) := ok_S s1 s2 (Int.le_refl _) (by decide)
    refine ⟨_, (pss_cons (ps_set (i := 4) nd rfl (Or.inl rfl) (pe_op op_mul (pe_op op_add pe_int (pe_op op_mul pe_int (pv 3))) (pv 1)))
      (pss_cons (ps_set (i := 5) nd rfl (Or.inl rfl) (pe_lst (pa_cons (pe_call G_latest_line hr_latest_line (by rfl) T.m_latest_line T.k_latest_line T.b_latest_line .nil pass0 (pa_cons (pv 0) (pa_cons pe_int (pa_cons (pe_op op_mul pe_int (pv 2)) (pa_cons (pv 4) pa_nil))))) (pa_cons (pe_call G_latest_line hr_latest_line (by rfl) T.m_latest_line T.k_latest_line T.b_latest_line .nil pass0 (pa_cons (pv 0) (pa_cons pe_int (pa_cons pe_int (pa_cons (pv 4) pa_nil))))) (pa_cons (pe_call G_latest_line hr_latest_line (by rfl) T.m_latest_line T.k_latest_line T.b_latest_line .nil pass0 (pa_cons (pv 0) (pa_cons pe_int (pa_cons pe_int (pa_cons (pv 4) pa_nil))))) pa_nil)))))
      (pss_one (ps_ret (pe_call G__law_same hr__law_same (by rfl) T.m__law_same T.k__law_same T.b__law_same .nil pass0 (pa_cons (pv 5) (pa_cons (pe_lst (pa_cons (pe_op op_mul (pe_op op_add (pe_op op_mul pe_int (pe_op op_sub (pv 3) (pv 2))) pe_int) (pv 1)) (pa_cons (pe_op op_sub (pv 4) (pe_op op_mul pe_int (pv 1))) (pa_cons (pv 4) pa_nil)))) pa_nil))))))), ?_⟩
    walk_at "un"
    obtain ⟨k, rfl⟩ : ∃ k, c = k + 1 := ⟨c - 1, by omega⟩
    have eA : (2 + 5 * (Y : Int)) * x = 2 * x + (Y : Int) * (5 * x) := by
      rw [Int.add_mul, Int.mul_comm 5 (Y : Int), Int.mul_assoc]
    have eB : (5 * ((Y : Int) - ((k + 1 : Nat) : Int)) + 3) * x = 3 * x + ((Y : Int) - ((k + 1 : Nat) : Int)) * (5 * x) := by
      rw [Int.add_mul, Int.mul_comm 5 ((Y : Int) - ((k + 1 : Nat) : Int)), Int.mul_assoc, Int.add_comm]
    refine ⟨_, rfl, _, _, rfl, rfl, .inl ⟨by decide, by decide⟩, _, _, rfl, rfl, _, rfl, _, _, rfl, rfl, .inr ⟨by omega, by omega⟩, ?_⟩
    refine ⟨_, rfl, _, rfl, _, _, rfl, rfl, .inl ⟨by decide, by decide⟩, _, rfl, true, hillS x 0, v, 0, 2 * (k + 1), (2 + 5 * (Y : Int)) * x, by
      show [v, V.int 0, V.int (2 * ((k + 1 : Nat) : Int)), V.int ((2 + 5 * (Y : Int)) * x)] = _
      rw [show (2 : Int) * ((k + 1 : Nat) : Int) = ((2 * (k + 1) : Nat) : Int) by omega]; rfl, hD, hk, by omega, fun r1 H1 q1 x1 => ?_⟩
    refine ⟨_, rfl, _, rfl, true, hillS x 0, v, 0, 1, (2 + 5 * (Y : Int)) * x, rfl, dp_le x1.le0 _ _ hD, hk, by decide, fun r2 H2 q2 x2 => ?_⟩
    refine ⟨_, rfl, _, rfl, true, hillS x 0, v, 0, 0, (2 + 5 * (Y : Int)) * x, rfl, dp_le (x1.trans x2).le0 _ _ hD, hk, by decide, fun r3 H3 q3 x3 => ?_⟩
    rw [eA] at q1 q2 q3
    cases Hill.late_uniq q1 (bare_back s1 s2 k Y)
    cases Hill.late_uniq q2 (bare_one s1 s2 Y)
    cases Hill.late_uniq q3 Hill.late_zero
    refine ⟨show 3 ≤ sizeLine by decide, fun p hp => ?_⟩
    walk_at "un"
    refine ⟨_, rfl, _, rfl, _, rfl, _, _, rfl, rfl, _, _, rfl, rfl, .inl ⟨by decide, by decide⟩, _, _, rfl, rfl, _, rfl, _, _, rfl, rfl, .inr ⟨by omega, by omega⟩, _, rfl, _, rfl, _, _, rfl, rfl, .inl ⟨by decide, by decide⟩, _, _, rfl, rfl, _, rfl, show 3 ≤ sizeLine by decide, fun p2 hp2 => ?_⟩
    dsimp only
    rw [eA, eB]
    refine ⟨_, _, sq false ([3 * x + ((Y : Int) - ((k + 1 : Nat) : Int)) * (5 * x), 2 * x + (Y : Int) * (5 * x) - 2 * x, 2 * x + (Y : Int) * (5 * x)].map PyData.int), rfl, ?_, ?_, ?_, fun H' xx => q H' ?_⟩
    · exact dp_il ((Ex.new (B := []) hp2).get (by simp) upd_same)
    · exact dp_il upd_same
    · exact dpt_ints _ (by decide : 3 ≤ 1000)
    · exact (((x1.trans (x2.trans x3)).trans (Ex.new hp)).trans (Ex.new hp2)).trans xx
theorem potV_some {x a b : Int} (e : max 0 a = b) (l : b ≤ 2 * x) : (hP x).potV a = .int b := by
  subst e
  exact if_pos l
theorem potV_none {x a : Int} (x0 : 0 < x) (l : 2 * x < a) : (hP x).potV a = .non := if_neg (by
  show ¬ max 0 a ≤ 2 * x
  omega)
theorem pots_turn {T : Txt K mg} {x : Int} {v : V} {Y k e : Nat} {r : Int} {z : V} {H : Hp} {Q : VK} (hD : Dp K H v ((hP x).dat true)) (s1 : 1 ≤ x) (s2 : x ≤ 10 ^ 10) (hk3 : k ≤ 3) (he : 1 + 3 * Y ≤ e) (ho : (hP x).isOpen e = true) (l : (hP x).Late 0 k ((hP x).given e) r) (ez : (hP x).potV (gP x Y - r) = z)
    (q : ∀ H', Ex [] H H' → Q z H') : spLeast K [v, .int ((1 + 3 * Y : Nat) : Int), .int 0, .int k, .int e] H Q E0 :=
  ⟨true, hP x, v, 1 + 3 * Y, 0, k, e, rfl, hD, okP s1 s2, open_P1 Y, he, by omega, fun o R H3 u l' e3 => by
    cases Hill.until_uniq u (Hill.until_self ho)
    cases Hill.late_uniq l' l
    rw [given_P1, ez]
    exact q _ e3⟩
theorem seen_turn {T : Txt K mg} {x : Int} {v : V} {Y : Nat} {a : Addr} {evs : List Nat} {r : Option (Int × Int)} {H : Hp} {Q : VK} (hD : Dp K H v ((hP x).dat true)) (s1 : 1 ≤ x) (s2 : x ≤ 10 ^ 10) (ha : H a = some (.lst ((evs.map fun e : Nat => (e : Int)).map V.int))) (ri : Hill.Rise (1 + 3 * Y) evs) (ln : evs.length ≤ 1000) (o : Out2 (hP x) (1 + 3 * Y) 0 evs r)
    (q : ∀ z H', Val H H' r z → Ex [] H H' → Q z H') : spSeen K [v, .int ((1 + 3 * Y : Nat) : Int), .int 0, .ref a] H Q E0 :=
  seen_in2 (t := true) (t2 := false) hD (okP s1 s2) (open_P1 Y) (by show 0 < 1; decide) (dp_il ha) ri ln fun r' u H' o' hv e => by
    cases out2_uniq o' o
    exact q _ _ hv e
theorem val_wo {H H' : Hp} {D : Addr} (nn : H D ≠ none) : ∀ {r : Option (Int × Int)} {v : V}, Val H H' r v → Dp K (wo [D] H') v (outD r)
  | none, _, e => by cases e; exact .non
  | some r, _, ⟨p, e, n, hp⟩ => by
    subst e
    exact .tup (SqT.of (wo_of (by simp only [List.mem_singleton]; exact fun z => nn (by rw [← z]; exact n)) hp)) (dpa_of_ints [r.1, r.2])
def spPots (K : PySem.W.Frag) : Sp := fun vs H Q _ => ∃ (v : V) (s : Int) (Y : Nat), vs = [v, .int s, .int Y] ∧ Dp K H v ((hillS s (2 * s)).dat true) ∧ 1 ≤ s ∧ s ≤ 10 ^ 10 ∧ ∀ H', Ex [] H H' → Q (.bl true) H'
theorem ok_pots (T : Txt K mg) : FnOk P w K mg base CX0 7 T.a__law_pots_right T.d__law_pots_right P__law_pots_right (spPots K) := by
  have nd := sc__law_pots_right.nd
  have G_least_pot := ok_least_pot (P := P) (w := w) (base := base) T
  have G_pots_seen := ok_pots_seen (P := P) (w := w) (base := base) T
  have G__law_same := ok_same (P := P) (w := w) (base := base) T 2
  refine T.F__law_pots_right.ok sc__law_pots_right (fun vs H Q E h => ?_) (fun cdv A outer s H vs Q E hr h => ?_)
  · obtain ⟨v, x, Y, rfl, _⟩ := h
    rfl
  · obtain ⟨v, x, Y, rfl, hD, s1, s2, q⟩ := h
    have hr_least_pot := hr
    have hr_pots_seen := hr.mono (show 5 ≤ 6 by decide)
    have hr__law_same := hr.mono (show 3 ≤ 6 by decide)
    have s3 : x ≤ 10000000000 := s2
    have p64 : (2 : Int) ^ 64 = 18446744073709551616 := by decide
    have hk : HillOk (hP x) := okP s1 s2
    have od := open_P1 (s := x) Y
    refine ⟨_, (pss_cons (ps_set (i := 3) nd rfl (Or.inr rfl) (pe_op op_add pe_int (pe_op op_mul pe_int (pv 2))))
      (pss_cons (ps_setLc (i := 4) (own := [("_law_count", 5)]) (by rfl) nd rfl rfl (sw_true rfl rfl rfl (by decide +kernel)) (pi_seqK K (pe_tup (pa_cons pe_int (pa_cons pe_int (pa_cons pe_int pa_nil))))) (blkOk_by (N := N__law_pots_right) (own := [("_law_count", 5)]) (sc := defScope s__law_pots_right) (by decide +kernel)) (fun _ _ _ _ _ => pg_name (i := 5) nd rfl (Or.inl rfl)) (fun _ _ _ _ _ => pts_nil) (fun _ _ _ _ _ => (pe_call G_least_pot hr_least_pot (by rfl) T.m_least_pot T.k_least_pot T.b_least_pot .nil pass0 (pa_cons (pv 0) (pa_cons (pv 3) (pa_cons pe_int (pa_cons (pv 5) (pa_cons (pv 3) pa_nil))))))))
      (pss_cons (ps_set (i := 4) nd rfl (Or.inl rfl) (pe_op op_cat (pv 4) (pe_lc (own := [("_law_count", 5)]) (by rfl) nd (pi_seqK K (pe_tup (pa_cons pe_int (pa_cons pe_int (pa_cons pe_int pa_nil))))) (blkOk_by (N := N__law_pots_right) (own := [("_law_count", 5)]) (sc := defScope s__law_pots_right) (by decide +kernel)) (fun _ _ _ _ _ => pg_name (i := 5) nd rfl (Or.inl rfl)) (fun _ _ _ _ _ => pts_nil) (fun _ _ _ _ _ => (pe_call G_least_pot hr_least_pot (by rfl) T.m_least_pot T.k_least_pot T.b_least_pot .nil pass0 (pa_cons (pv 0) (pa_cons (pv 3) (pa_cons pe_int (pa_cons (pv 5) (pa_cons (pe_op op_add (pv 3) pe_int) pa_nil))))))))))
      (pss_cons (ps_if (pt_not (pt_val (pe_call G__law_same hr__law_same (by rfl) T.m__law_same T.k__law_same T.b__law_same .nil pass0 (pa_cons (pv 4) (pa_cons (pe_lst (pa_cons pe_int (pa_cons (pe_op op_mul pe_int (pv 1)) (pa_cons pe_non (pa_cons pe_int (pa_cons (pv 1) (pa_cons pe_non pa_nil))))))) pa_nil))))) (pss_one (ps_ret pe_bl)) pss_nil)
      (pss_cons (ps_setLc (i := 4) (own := [("_law_seen", 6)]) (by rfl) nd rfl rfl (sw_true rfl rfl rfl (by decide +kernel)) (pi_seqK K (pe_tup (pa_cons (pe_lst pa_nil) (pa_cons (pe_lst (pa_cons (pv 3) pa_nil)) (pa_cons (pe_lst (pa_cons (pe_op op_add (pv 3) pe_int) pa_nil)) (pa_cons (pe_lst (pa_cons (pv 3) (pa_cons (pv 3) pa_nil))) (pa_cons (pe_lst (pa_cons (pe_op op_add (pv 3) pe_int) (pa_cons (pe_op op_add (pv 3) pe_int) pa_nil))) pa_nil))))))) (blkOk_by (N := N__law_pots_right) (own := [("_law_seen", 6)]) (sc := defScope s__law_pots_right) (by decide +kernel)) (fun _ _ _ _ _ => pg_name (i := 6) nd rfl (Or.inl rfl)) (fun _ _ _ _ _ => pts_nil) (fun _ _ _ _ _ => (pe_call G_pots_seen hr_pots_seen (by rfl) T.m_pots_seen T.k_pots_seen T.b_pots_seen .nil pass0 (pa_cons (pv 0) (pa_cons (pv 3) (pa_cons pe_int (pa_cons (pv 6) pa_nil)))))))
      (pss_cons (ps_if (pt_not (pt_val (pe_call G__law_same hr__law_same (by rfl) T.m__law_same T.k__law_same T.b__law_same .nil pass0 (pa_cons (pv 4) (pa_cons (pe_lst (pa_cons (pe_tup (pa_cons pe_int (pa_cons (pe_op op_mul pe_int (pv 1)) pa_nil))) (pa_cons (pe_tup (pa_cons (pe_op op_mul pe_int (pv 1)) (pa_cons (pe_op op_mul pe_int (pv 1)) pa_nil))) (pa_cons (pe_tup (pa_cons pe_int (pa_cons (pe_op op_sub (pe_op op_mul pe_int (pv 1)) pe_int) pa_nil))) (pa_cons pe_non (pa_cons (pe_tup (pa_cons (pv 1) (pa_cons (pe_op op_sub (pe_op op_mul pe_int (pv 1)) pe_int) pa_nil))) pa_nil)))))) pa_nil))))) (pss_one (ps_ret pe_bl)) pss_nil)
      (pss_cons (ps_set (i := 4) nd rfl (Or.inl rfl) (pe_lst (pa_cons (pe_call G_pots_seen hr_pots_seen (by rfl) T.m_pots_seen T.k_pots_seen T.b_pots_seen .nil pass0 (pa_cons (pv 0) (pa_cons (pv 3) (pa_cons pe_int (pa_cons (pe_lst (pa_cons (pe_op op_add (pv 3) pe_int) (pa_cons (pe_op op_add (pv 3) pe_int) pa_nil))) pa_nil))))) (pa_cons (pe_call G_pots_seen hr_pots_seen (by rfl) T.m_pots_seen T.k_pots_seen T.b_pots_seen .nil pass0 (pa_cons (pv 0) (pa_cons (pv 3) (pa_cons pe_int (pa_cons (pe_lst (pa_cons (pe_op op_add (pv 3) pe_int) pa_nil)) pa_nil))))) pa_nil))))
      (pss_one (ps_ret (pe_call G__law_same hr__law_same (by rfl) T.m__law_same T.k__law_same T.b__law_same .nil pass0 (pa_cons (pv 4) (pa_cons (pe_lst (pa_cons (pe_tup (pa_cons pe_int (pa_cons (pe_op op_sub (pv 1) pe_int) pa_nil))) (pa_cons pe_non pa_nil))) pa_nil)))))))))))), ?_⟩
    walk_at "un"
    refine ⟨_, rfl, _, _, rfl, rfl, .inl ⟨by decide, by decide⟩, _, _, rfl, rfl, ?_⟩
    dsimp only
    rw [show (1 : Int) + 3 * (Y : Int) = ((1 + 3 * Y : Nat) : Int) by omega]
    refine z_lcP1 (t := true) (xs := [.int 0, .int 1, .int 2]) (fun R r => ⟨(by show 3 ≤ sizeLine; decide), fun p hp => r p _ (Ex.new hp) (SqT.of upd_same)⟩) (by show 3 < 100000; decide) (fun k => ([V.int 0, .int (2 * x), .non][k]?).getD .non) (fun k y H1 hy x1 N hN => ?_) (fun D H1 hD1 hz x1 => ?_)
    · rcases k with _ | _ | _ | k
      · cases hy
        refine ⟨rfl, _, rfl, _, rfl, _, rfl, _, rfl, pots_turn (T := T) (dp_le x1.le0 _ _ hD) s1 s2 (k := 0) (by decide) (Nat.le_refl _) od Hill.late_zero (potV_some (b := 0) ?_ ?_) fun H' e' => hN _ e'⟩
        · rw [given_P1]; omega
        · omega
      · cases hy
        refine ⟨rfl, _, rfl, _, rfl, _, rfl, _, rfl, pots_turn (T := T) (dp_le x1.le0 _ _ hD) s1 s2 (k := 1) (by decide) (Nat.le_refl _) od (by rw [given_P1]; exact lateP1 s1 s2 Y) (potV_some (b := 2 * x) ?_ ?_) fun H' e' => hN _ e'⟩
        · omega
        · omega
      · cases hy
        refine ⟨rfl, _, rfl, _, rfl, _, rfl, _, rfl, pots_turn (T := T) (dp_le x1.le0 _ _ hD) s1 s2 (k := 2) (by decide) (Nat.le_refl _) od (by rw [given_P1]; exact lateP2 s1 s2 Y) (potV_none (by omega) ?_) fun H' e' => hN _ e'⟩
        omega
      · exact absurd hy (by simp)
    refine ⟨_, rfl, z_lcP1 (t := true) (xs := [.int 1, .int 2, .int 3]) (fun R r => ⟨(by show 3 ≤ sizeLine; decide), fun p hp => r p _ (Ex.new hp) (SqT.of upd_same)⟩) (by show 3 < 100000; decide) (fun k => ([V.int 0, .int x, .non][k]?).getD .non) (fun k y H2 hy x2 N hN => ?_) (fun D2 H2 hD2 hz2 x2 => ?_)⟩
    · have o2 := open_P2 (s := x) Y
      have e2 : ((1 + 3 * Y : Nat) : Int) + 1 = ((1 + 3 * Y + 1 : Nat) : Int) := by omega
      have hD' := dp_le (x1.trans x2).le0 _ _ hD
      rcases k with _ | _ | _ | k
      · cases hy
        refine ⟨rfl, _, rfl, _, rfl, _, rfl, _, rfl, _, _, rfl, rfl, ?_⟩
        dsimp only
        rw [e2]
        refine pots_turn (T := T) hD' s1 s2 (k := 1) (by decide) (Nat.le_succ _) o2 (by rw [given_P2]; exact lateQ1 s1 s2 Y) (potV_some (b := 0) ?_ ?_) fun H' e' => hN _ e'
        · omega
        · omega
      · cases hy
        refine ⟨rfl, _, rfl, _, rfl, _, rfl, _, rfl, _, _, rfl, rfl, ?_⟩
        dsimp only
        rw [e2]
        refine pots_turn (T := T) hD' s1 s2 (k := 2) (by decide) (Nat.le_succ _) o2 (by rw [given_P2]; exact lateQ2 s1 s2 Y) (potV_some (b := x) ?_ ?_) fun H' e' => hN _ e'
        · omega
        · omega
      · cases hy
        refine ⟨rfl, _, rfl, _, rfl, _, rfl, _, rfl, _, _, rfl, rfl, ?_⟩
        dsimp only
        rw [e2]
        refine pots_turn (T := T) hD' s1 s2 (k := 3) (by decide) (Nat.le_succ _) o2 (by rw [given_P2]; exact lateQ3 s1 s2 Y) (potV_none (by omega) ?_) fun H' e' => hN _ e'
        omega
      · exact absurd hy (by simp)
    have g1 : H2 D = some (.lst [.int 0, .int (2 * x), .non]) := x2.get (by simp) hz
    have g2 : H2 D2 = some (.lst [.int 0, .int x, .non]) := hz2
    refine ⟨_, _, _, _, rfl, rfl, g1, g2, show 6 ≤ sizeLine by decide, fun p3 hp3 => ?_⟩
    have x3 := (x1.trans x2).trans (Ex.new (B := []) (o := .lst ([.int 0, .int (2 * x), .non] ++ [.int 0, .int x, .non])) hp3)
    refine ⟨_, rfl, _, rfl, _, _, rfl, rfl, .inl ⟨by decide, by decide⟩, _, rfl, show 6 ≤ sizeLine by decide, fun p4 hp4 => ?_⟩
    have x4 := x3.trans (Ex.new (B := []) (o := .lst [.int 0, .int (2 * x), .non, .int 0, .int x, .non]) hp4)
    refine ⟨_, _, .list [.int 0, .int (2 * x), .none, .int 0, .int x, .none], rfl, ?_, ?_, ?_, fun H5 x5 => ?_⟩
    · exact .lst (SqL.of ((Ex.new (B := []) hp4).get (by simp) upd_same)) (.cons (.int _) (.cons (.int _) (.cons .non (.cons (.int _) (.cons (.int _) (.cons .non .nil))))))
    · exact .lst (SqL.of upd_same) (.cons (.int _) (.cons (.int _) (.cons .non (.cons (.int _) (.cons (.int _) (.cons .non .nil))))))
    · refine ⟨by show 6 ≤ 1000; decide, fun d hd => ?_⟩
      simp only [List.mem_cons, List.not_mem_nil, or_false] at hd
      rcases hd with rfl | rfl | rfl | rfl | rfl | rfl <;> trivial
    refine ⟨_, rfl, iteF (lc_bindT ?_)⟩
    walk_at "un"
    have e2 : ((1 + 3 * Y : Nat) : Int) + 1 = ((1 + 3 * Y + 1 : Nat) : Int) := by omega
    have l1 : 1 ≤ sizeLine := by decide
    have l2 : 2 ≤ sizeLine := by decide
    refine ⟨show 0 ≤ sizeLine by decide, fun a0 h0 => ⟨_, rfl, l1, fun a1 h1 => ⟨_, rfl, _, _, rfl, rfl, l1, fun a2 h2 => ⟨_, rfl, _, rfl, l2, fun a3 h3 => ⟨_, rfl, _, _, rfl, rfl, _, rfl, _, _, rfl, rfl, l2, fun a4 h4 => ⟨show 5 ≤ sizeLine by decide, fun a5 h5 => ?_⟩⟩⟩⟩⟩⟩
    have f4 := (Ex.new (B := []) (o := HO.tup [.ref a0, .ref a1, .ref a2, .ref a3, .ref a4]) h5)
    have f3 := (Ex.new (B := []) (o := HO.lst [.int (((1 + 3 * Y : Nat) : Int) + 1), .int (((1 + 3 * Y : Nat) : Int) + 1)]) h4).trans f4
    have f2 := (Ex.new (B := []) (o := HO.lst [.int ((1 + 3 * Y : Nat) : Int), .int ((1 + 3 * Y : Nat) : Int)]) h3).trans f3
    have f1 := (Ex.new (B := []) (o := HO.lst [.int (((1 + 3 * Y : Nat) : Int) + 1)]) h2).trans f2
    have f0 := (Ex.new (B := []) (o := HO.lst [.int ((1 + 3 * Y : Nat) : Int)]) h1).trans f1
    have m0 := f0.get (a := a0) (by simp) upd_same
    have m1 := f1.get (a := a1) (by simp) upd_same
    have m2 := f2.get (a := a2) (by simp) upd_same
    have m3 := f3.get (a := a3) (by simp) upd_same
    have m4 := f4.get (a := a4) (by simp) upd_same
    have x6 := (x4.trans x5).trans ((Ex.new (B := []) (o := HO.lst []) h0).trans f0)
    dsimp only at m2 m4
    rw [e2] at m2 m4
    refine z_lcTD (xs := [.ref a0, .ref a1, .ref a2, .ref a3, .ref a4]) (fun R r => r _ _ (Ex.refl _ _) (SqT.of upd_same)) (by show 5 < 100000; decide) [outD (some (0, 2 * x)), outD (some (2 * x, 2 * x)), outD (some (0, 2 * x - 1)), outD none, outD (some (x, 2 * x - 1))] rfl (fun H6 y6 k y d hy hd D6 H7 nn y7 N hN => ?_) (fun D6 H7 hD6 hz7 y7 => ?_)
    · have y8 := y6.trans y7
      have hD7 := dp_le (x6.trans y8).le0 _ _ hD
      rcases k with _ | _ | _ | _ | _ | k
      · cases hy
        cases hd
        exact ⟨rfl, _, rfl, _, rfl, _, rfl, seen_turn (T := T) (evs := []) hD7 s1 s2 (y8.get (by simp) m0) trivial (by decide) (out0 s1 s2 Y) fun z H8 hv e8 => hN z H8 e8 (val_wo nn hv)⟩
      · cases hy
        cases hd
        exact ⟨rfl, _, rfl, _, rfl, _, rfl, seen_turn (T := T) (evs := [1 + 3 * Y]) hD7 s1 s2 (y8.get (by simp) m1) ⟨Nat.le_refl _, trivial⟩ (by show 1 ≤ 1000; decide) (out1 s1 s2 Y) fun z H8 hv e8 => hN z H8 e8 (val_wo nn hv)⟩
      · cases hy
        cases hd
        exact ⟨rfl, _, rfl, _, rfl, _, rfl, seen_turn (T := T) (evs := [1 + 3 * Y + 1]) hD7 s1 s2 (y8.get (by simp) m2) ⟨by omega, trivial⟩ (by show 1 ≤ 1000; decide) (out2 s1 s2 Y) fun z H8 hv e8 => hN z H8 e8 (val_wo nn hv)⟩
      · cases hy
        cases hd
        exact ⟨rfl, _, rfl, _, rfl, _, rfl, seen_turn (T := T) (evs := [1 + 3 * Y, 1 + 3 * Y]) hD7 s1 s2 (y8.get (by simp) m3) ⟨Nat.le_refl _, Nat.le_refl _, trivial⟩ (by show 2 ≤ 1000; decide) (out3 s1 s2 Y) fun z H8 hv e8 => hN z H8 e8 (val_wo nn hv)⟩
      · cases hy
        cases hd
        exact ⟨rfl, _, rfl, _, rfl, _, rfl, seen_turn (T := T) (evs := [1 + 3 * Y + 1, 1 + 3 * Y + 1]) hD7 s1 s2 (y8.get (by simp) m4) ⟨by omega, Nat.le_refl _, trivial⟩ (by show 2 ≤ 1000; decide) (out4 s1 s2 Y) fun z H8 hv e8 => hN z H8 e8 (val_wo nn hv)⟩
      · exact absurd hy (by simp)
    have x7 := x6.trans y7
    walk_at "un"
    have m2x : CMul 2 x := .inl ⟨by decide, by decide⟩
    refine ⟨_, rfl, _, rfl, _, _, rfl, rfl, m2x, l2, fun t0 b0 => ?_⟩
    refine ⟨_, rfl, _, _, rfl, rfl, m2x, _, rfl, _, _, rfl, rfl, m2x, l2, fun t1 b1 => ?_⟩
    refine ⟨_, rfl, _, _, rfl, rfl, m2x, _, _, rfl, rfl, l2, fun t2 b2 => ?_⟩
    refine ⟨_, rfl, _, rfl, _, _, rfl, rfl, m2x, _, _, rfl, rfl, l2, fun t3 b3 => ?_⟩
    refine ⟨show 5 ≤ sizeLine by decide, fun t4 b4 => ?_⟩
    have c4 := (Ex.new (B := []) (o := HO.lst [.ref t0, .ref t1, .ref t2, .non, .ref t3]) b4)
    have c3 := (Ex.new (B := []) (o := HO.tup [.int x, .int (2 * x - 1)]) b3).trans c4
    have c2 := (Ex.new (B := []) (o := HO.tup [.int 0, .int (2 * x - 1)]) b2).trans c3
    have c1 := (Ex.new (B := []) (o := HO.tup [.int (2 * x), .int (2 * x)]) b1).trans c2
    have c0 := (Ex.new (B := []) (o := HO.tup [.int 0, .int (2 * x)]) b0).trans c1
    have n0 := c1.get (a := t0) (by simp) upd_same
    have n1 := c2.get (a := t1) (by simp) upd_same
    have n2 := c3.get (a := t2) (by simp) upd_same
    have n3 := c4.get (a := t3) (by simp) upd_same
    refine ⟨_, _, _, rfl, dp_le c0.le0 _ _ hz7, ?_, ?_, fun H8 x8 => ⟨_, rfl, iteF ?_⟩⟩
    · exact .lst (SqL.of upd_same) (.cons (.tup (SqT.of n0) (dpa_of_ints [0, 2 * x])) (.cons (.tup (SqT.of n1) (dpa_of_ints [2 * x, 2 * x])) (.cons (.tup (SqT.of n2) (dpa_of_ints [0, 2 * x - 1])) (.cons .non (.cons (.tup (SqT.of n3) (dpa_of_ints [x, 2 * x - 1])) .nil)))))
    · refine ⟨by show 5 ≤ 1000; decide, fun d hd => ?_⟩
      simp only [List.mem_cons, List.not_mem_nil, or_false] at hd
      rcases hd with rfl | rfl | rfl | rfl | rfl <;> exact dpt_out 0 _
    have x8' := x7.trans (c0.trans x8)
    refine ⟨_, rfl, _, rfl, _, rfl, _, _, rfl, rfl, _, rfl, _, _, rfl, rfl, l2, fun r0 w0 => ?_⟩
    have g5 := Ex.new (B := []) (o := HO.lst [.int (((1 + 3 * Y : Nat) : Int) + 1), .int (((1 + 3 * Y : Nat) : Int) + 3)]) w0
    walk_at "ut"
    refine seen_turn (T := T) (evs := [1 + 3 * Y + 1, 1 + 3 * Y + 3]) (dp_le (x8'.trans g5).le0 _ _ hD) s1 s2 upd_same ⟨by omega, by omega, trivial⟩ (by show 2 ≤ 1000; decide) (out5 s1 s2 Y) fun z1 H9 hv1 e9 => ?_
    refine ⟨_, rfl, _, rfl, _, rfl, _, _, rfl, rfl, l1, fun r1 w1 => ?_⟩
    have g6 := Ex.new (B := []) (o := HO.lst [.int (((1 + 3 * Y : Nat) : Int) + 2)]) w1
    walk_at "ut"
    refine seen_turn (T := T) (evs := [1 + 3 * Y + 2]) (dp_le (x8'.trans (g5.trans (e9.trans g6))).le0 _ _ hD) s1 s2 upd_same ⟨by omega, trivial⟩ (by show 1 ≤ 1000; decide) (out6 s1 s2 Y) fun z2 H10 hv2 e10 => ?_
    refine ⟨l2, fun r2 w2 => ?_⟩
    walk_at "un"
    refine ⟨_, rfl, _, rfl, _, _, rfl, rfl, l2, fun r3 w3 => ⟨l2, fun r4 w4 => ?_⟩⟩
    have g9 := Ex.new (B := []) (o := HO.lst [.ref r3, .non]) w4
    have g8 := (Ex.new (B := []) (o := HO.tup [.int 0, .int (x - 1)]) w3).trans g9
    have g7 := (Ex.new (B := []) (o := HO.lst [z1, z2]) w2).trans g8
    have k2 := g8.get (a := r2) (by simp) upd_same
    have k3 := g9.get (a := r3) (by simp) upd_same
    refine ⟨_, _, .list [outD (some (0, x - 1)), outD none], rfl, ?_, ?_, ?_, fun H11 x11 => q _ ?_⟩
    · exact .lst (SqL.of k2) (.cons (val_dp hv1 (g6.trans (e10.trans g7))) (.cons (val_dp hv2 g7) .nil))
    · exact .lst (SqL.of upd_same) (.cons (.tup (SqT.of k3) (dpa_of_ints [0, x - 1])) (.cons .non .nil))
    · refine ⟨by show 2 ≤ 1000; decide, fun d hd => ?_⟩
      simp only [List.mem_cons, List.not_mem_nil, or_false] at hd
      rcases hd with rfl | rfl <;> exact dpt_out 0 _
    · exact x8'.trans (g5.trans (e9.trans (g6.trans (e10.trans (g7.trans x11)))))
end
end Z28
set_option Elab.async false
set_option linter.all false
set_option maxRecDepth 100000
set_option maxHeartbeats 2000000
namespace Hz
open PySem PySem.Spec PyProof.Rows L2
/-- a year under way: a list of lists of two -/
structure YearAt (b y : Addr) (as : List Addr) (c : List (Int × Bool)) (H : Hp) : Prop where
  ly : H y = some (.lst (as.map V.ref))
  len : as.length = c.length
  at_ : ∀ (j : Nat) a d, as[j]? = some a → c[j]? = some d → H a = some (.lst [.int d.1, .bl d.2])
  nd : as.Nodup
  ny : y ∉ as
  nb : b ∉ as
  by_ : b ≠ y
section
variable {b y : Addr} {as : List Addr} {c : List (Int × Bool)} {H H' : Hp}
theorem YearAt.ex (h : YearAt b y as c H) (e : Ex [b] H H') : YearAt b y as c H' :=
  ⟨e.1 _ _ (fun z => h.by_ (List.mem_singleton.mp z).symm) h.ly, h.len, fun j a d h1 h2 => e.1 _ _ (fun z => h.nb ((List.mem_singleton.mp z) ▸ List.mem_of_getElem? h1)) (h.at_ j a d h1 h2), h.nd, h.ny, h.nb, h.by_⟩
theorem YearAt.push (h : YearAt b y as c H) {p : Addr} {d : Int} {f : Bool} (hp : H p = some (.lst [.int d, .bl f])) (n1 : p ∉ as) (n2 : p ≠ y) (n3 : p ≠ b) :
    YearAt b y (as ++ [p]) (c ++ [(d, f)]) (upd H y (.lst (as.map V.ref ++ [.ref p]))) := by
  refine ⟨by rw [upd_same, List.map_append]; rfl, by rw [List.length_append, List.length_append, h.len]; rfl, fun j a e h1 h2 => ?_, ?_, ?_, ?_, h.by_⟩
  · have ha : a ≠ y := by
      have : a ∈ as ++ [p] := List.mem_of_getElem? h1
      rcases List.mem_append.mp this with z | z
      · exact fun q => h.ny (q ▸ z)
      · rw [List.mem_singleton.mp z]; exact n2
    rw [upd_ne ha]
    by_cases l : j < as.length
    · rw [List.getElem?_append_left l] at h1
      rw [List.getElem?_append_left (h.len ▸ l)] at h2
      exact h.at_ j a e h1 h2
    · have hj : j = as.length := by
        obtain ⟨q, _⟩ := List.getElem?_eq_some_iff.mp h1
        rw [List.length_append, List.length_singleton] at q
        omega
      subst hj
      rw [List.getElem?_append_right (Nat.le_refl _), Nat.sub_self] at h1
      rw [h.len, List.getElem?_append_right (Nat.le_refl _), Nat.sub_self] at h2
      cases h1
      cases h2
      exact hp
  · rw [List.nodup_append]
    refine ⟨h.nd, by simp, fun a ha q hq => ?_⟩
    rw [List.mem_singleton.mp hq]
    exact fun z => n1 (z ▸ ha)
  · intro z
    rcases List.mem_append.mp z with z | z
    · exact h.ny z
    · exact n2 (List.mem_singleton.mp z).symm
  · intro z
    rcases List.mem_append.mp z with z | z
    · exact h.nb z
    · exact n3 (List.mem_singleton.mp z).symm
theorem YearAt.set (h : YearAt b y as c H) {w : Nat} {a : Addr} {z : Int} {f : Bool} (ha : as[w]? = some a) : YearAt b y as (c.set w (z, f)) (upd H a (.lst [.int z, .bl f])) := by
  have ma := List.mem_of_getElem? ha
  refine ⟨by rw [upd_ne (fun q => h.ny (by rw [q]; exact ma))]; exact h.ly, by rw [List.length_set]; exact h.len, fun j e d h1 h2 => ?_, h.nd, h.ny, h.nb, h.by_⟩
  by_cases q : j = w
  · subst q
    rw [ha] at h1
    cases h1
    rw [upd_same]
    obtain ⟨l, _⟩ := List.getElem?_eq_some_iff.mp h2
    rw [List.length_set] at l
    rw [List.getElem?_set_self l] at h2
    cases h2
    rfl
  · rw [List.getElem?_set_ne (fun z => q z.symm)] at h2
    have ne : e ≠ a := fun z => q (nd_ix h.nd h1 (z ▸ ha))
    rw [upd_ne ne]
    exact h.at_ j e d h1 h2
theorem YearAt.mem (h : YearAt b y as c H) {j : Nat} (hj : j < c.length) : ∃ a, as[j]? = some a ∧ H a = some (.lst [.int (c[j]'hj).1, .bl (c[j]'hj).2]) := by
  have hj' : j < as.length := by rw [h.len]; exact hj
  exact ⟨as[j], List.getElem?_eq_getElem hj', h.at_ j _ _ (List.getElem?_eq_getElem hj') (List.getElem?_eq_getElem hj)⟩
theorem YearAt.fresh (h : YearAt b y as c H) {p : Addr} (hp : H p = none) : p ∉ as ∧ p ≠ y := by
  refine ⟨fun z => ?_, fun z => ?_⟩
  · obtain ⟨j, hj, e⟩ := List.getElem_of_mem z
    have := h.at_ j p (c[j]'(h.len ▸ hj)) (by rw [List.getElem?_eq_getElem hj, e]) (List.getElem?_eq_getElem _)
    rw [hp] at this; cases this
  · have := h.ly
    rw [← z, hp] at this; cases this
end
theorem Bx.ne {b p : Addr} {n : Nat} {H : Hp} (h : Bx b n H) (hp : H p = none) : p ≠ b := fun z => by
  obtain ⟨_, _, _, hb, _⟩ := h
  rw [← z, hp] at hb; cases hb
theorem sq_new {K : PySem.W.Frag} {b p : Addr} {n : Nat} {H : Hp} {xs : List V} (h : Bx b n H) (hp : H p = none) : Sq K (wo [b] (upd H p (.lst xs))) p xs :=
  .inl (SqL.of (wo_of (by simpa using h.ne hp) upd_same))
theorem YearAt.other {b y : Addr} {as : List Addr} {c : List (Int × Bool)} {H : Hp} (h : YearAt b y as c H) {p : Addr} {o : HO} (n1 : p ∉ as) (n2 : p ≠ y) : YearAt b y as c (upd H p o) :=
  ⟨by rw [upd_ne n2.symm]; exact h.ly, h.len, fun j a d h1 h2 => by
    have na : a ≠ p := fun z => n1 (by rw [← z]; exact List.mem_of_getElem? h1)
    rw [upd_ne na]
    exact h.at_ j a d h1 h2, h.nd, h.ny, h.nb, h.by_⟩
theorem sum_pos : ∀ {l : List Int} {z : Int}, (∀ x, x ∈ l → 0 ≤ x) → z ∈ l → z ≤ l.sum
  | [], _, _, h => by cases h
  | a :: r, z, h0, h => by
    rw [List.sum_cons]
    have hr : 0 ≤ r.sum := by
      clear h
      induction r with
      | nil => exact Int.le_refl _
      | cons b q ih =>
        rw [List.sum_cons]
        have h1 := h0 b (by simp)
        have h2 := ih fun x hx => by
          rcases List.mem_cons.mp hx with e | e
          · exact h0 x (by rw [e]; simp)
          · exact h0 x (by simp [e])
        omega
    rcases List.mem_cons.mp h with e | e
    · subst e; omega
    · have h1 := h0 a (List.mem_cons_self ..)
      have h2 := sum_pos (l := r) (z := z) (fun x hx => h0 x (List.mem_cons_of_mem _ hx)) e
      omega
/-- a year with a drop, and an open day -/
structure YearOk (c : List (Int × Bool)) (n : Nat) : Prop where
  len : c.length = n
  bd : ∀ d ∈ c, 0 ≤ d.1 ∧ d.1 ≤ 10 ^ 11
  op : ∃ d, d ∈ c ∧ d.2 = true
  dr : 0 < (c.map (·.1)).sum
theorem year_fix {c : List (Int × Bool)} {wn ln : Nat} {M d' : Int} {f f' : Bool} (hw : wn < c.length) (hl : ln < c.length) (hc : ∀ d ∈ c, 0 ≤ d.1 ∧ d.1 ≤ 10 ^ 11) (hM : 1 ≤ M) (hM2 : M ≤ 10 ^ 11)
    (hd : (c.set wn (M, f))[ln]? = some (d', f')) : YearOk ((c.set wn (M, f)).set ln (d', true)) c.length := by
  have h1 : ∀ d ∈ c.set wn (M, f), 0 ≤ d.1 ∧ d.1 ≤ 10 ^ 11 := fun d hd => by
    rcases List.mem_or_eq_of_mem_set hd with h | h
    · exact hc d h
    · rw [h]; exact ⟨by show 0 ≤ M; omega, hM2⟩
  have h2 := h1 _ (List.mem_of_getElem? hd)
  have hl' : ln < (c.set wn (M, f)).length := by rw [List.length_set]; exact hl
  have h3 : ∀ d ∈ (c.set wn (M, f)).set ln (d', true), 0 ≤ d.1 ∧ d.1 ≤ 10 ^ 11 := fun d hd => by
    rcases List.mem_or_eq_of_mem_set hd with h | h
    · exact h1 d h
    · rw [h]; exact h2
  refine ⟨by rw [List.length_set, List.length_set], h3, ⟨(d', true), ?_, rfl⟩, ?_⟩
  · exact List.mem_of_getElem? (List.getElem?_set_self hl')
  · have hm : ∃ e, e ∈ (c.set wn (M, f)).set ln (d', true) ∧ 1 ≤ e.1 := by
      by_cases q : ln = wn
      · subst q
        rw [List.getElem?_set_self hw] at hd
        cases hd
        exact ⟨_, List.mem_of_getElem? (List.getElem?_set_self hl'), hM⟩
      · refine ⟨(M, f), List.mem_of_getElem? (i := wn) ?_, hM⟩
        rw [List.getElem?_set_ne q, List.getElem?_set_self hw]
    obtain ⟨e, he, e1⟩ := hm
    have := sum_pos (l := ((c.set wn (M, f)).set ln (d', true)).map (·.1)) (z := e.1) (fun x hx => by
      obtain ⟨d, hd, rfl⟩ := List.mem_map.mp hx
      exact (h3 d hd).1) (List.mem_map.mpr ⟨e, he, rfl⟩)
    omega
theorem Bx.there {b : Addr} {n : Nat} {H : Hp} (h : Bx b n H) : H b ≠ none := fun z => by
  obtain ⟨_, _, _, hb, _⟩ := h
  rw [z] at hb; cases hb
end Hz
set_option Elab.async false
set_option linter.all false
set_option maxRecDepth 100000
set_option maxHeartbeats 4000000
namespace Z28
open PySem PySem.Spec PyProof.Rows L2 Hz
section
variable {P : Program} {w : World} {K : PySem.W.Frag} {mg : Str → Option Value} {base : Heap}
local macro_rules | `(tactic| walk_at "un") => `(tactic| try dsimp only [tSeq, tIfS, tRet, tAsg, tDrop, tOr, tAnd, tNot, tAndV, tOrV, tNotV, tTest, tB, tOp, tUn, tCB, tCons, tNil, tC, tNext, tIf, tChain, gName, tPar, tPar3, tTup, tLst])
local macro_rules | `(tactic| walk_at "ut") => `(tactic| dsimp only [tNil, tCons, List.append_nil, List.cons_append, List.nil_append])
def lawLevel : Nat := 7 + 1
def spLaw (K : PySem.W.Frag) : Sp := fun vs H Q _ => ∃ (a : Addr) (ns : List Int), vs = [.ref a] ∧ SqL K H a (ns.map V.int) ∧ ns.length ≤ 63 ∧ ∀ H', Q (.bl true) H'
theorem ok_law (T : Txt K mg) : FnOk P w K mg base CX0 lawLevel T.a_law T.d_law P_law (spLaw K) := by
  have nd := sc_law.nd
  have G__law_folded := ok_folded (P := P) (w := w) (base := base) T
  have G__law_box := ok_box (P := P) (w := w) (base := base) T
  have G__law_take := ok_T (P := P) (w := w) (base := base) T
  have G__law_of := ok_of (P := P) (w := w) (base := base) T
  have G__law_hill_of := ok_hill_of (P := P) (w := w) (base := base) T
  have G__law_bare_right := ok_bare (P := P) (w := w) (base := base) T
  have G__law_pots_right := ok_pots (P := P) (w := w) (base := base) T
  refine T.F_law.ok sc_law (fun vs H Q E h => ?_) (fun cdv A outer s H vs Q E hr h => ?_)
  · obtain ⟨a, ns, rfl, _⟩ := h
    rfl
  · obtain ⟨a, ns, rfl, hS, hn, q⟩ := h
    have hr__law_folded := hr.mono (show 1 ≤ 7 by decide)
    have hr__law_box := hr.mono (show 1 ≤ 7 by decide)
    have hr__law_take := hr.mono (show 5 ≤ 7 by decide)
    have hr__law_of := hr.mono (show 6 ≤ 7 by decide)
    have hr__law_hill_of := hr.mono (show 1 ≤ 7 by decide)
    have hr__law_bare_right := hr.mono (show 6 ≤ 7 by decide)
    have hr__law_pots_right := hr
    refine ⟨_, (pss_cons (ps_set (i := 1) nd rfl (Or.inl rfl) (pe_call G__law_folded hr__law_folded (by rfl) T.m__law_folded T.k__law_folded T.b__law_folded .nil pass0 (pa_cons (pv 0) (pa_cons pe_int pa_nil))))
      (pss_cons (ps_for PassesOwn.never rfl (pi_range1 (by rfl) T.z_range (pa_cons (pe_callB (call_max2 rfl) (by rfl) T.z_max (by decide +kernel) (pa_cons pe_int (pa_cons (pe_callB (lenK K) (by rfl) T.z_len (by decide +kernel) (pa_cons (pv 1) pa_nil)) pa_nil))) pa_nil)) (pg_name (i := 2) nd rfl (Or.inl rfl)) (pss_cons (ps_set (i := 3) nd rfl (Or.inl rfl) (pe_call G__law_box hr__law_box (by rfl) T.m__law_box T.k__law_box T.b__law_box .nil pass0 (pa_cons (pv 1) (pa_cons (pv 2) pa_nil))))
      (pss_cons (ps_set (i := 4) nd rfl (Or.inl rfl) (pe_op op_add pe_int (pe_call G__law_take hr__law_take (by rfl) T.m__law_take T.k__law_take T.b__law_take .nil pass0 (pa_cons (pv 3) (pa_cons (pe_call G__law_of hr__law_of (by rfl) T.m__law_of T.k__law_of T.b__law_of .nil pass0 (pa_cons (pv 3) (pa_cons (pe_lst (pa_cons pe_int (pa_cons pe_int (pa_cons (pe_op op_pow pe_int pe_int) pa_nil)))) pa_nil))) pa_nil)))))
      (pss_one (ps_for PassesOwn.never rfl (pi_range1 (by rfl) T.z_range (pa_cons pe_int pa_nil)) (pg_name (i := 5) nd rfl (Or.inl rfl)) (pss_cons (ps_par (i := 6) (j := 7) (by rfl) nd rfl rfl (by decide) rfl rfl (pa_cons (pe_op op_add pe_int (pe_call G__law_take hr__law_take (by rfl) T.m__law_take T.k__law_take T.b__law_take .nil pass0 (pa_cons (pv 3) (pa_cons pe_int pa_nil)))) (pa_cons (pe_call G__law_take hr__law_take (by rfl) T.m__law_take T.k__law_take T.b__law_take .nil pass0 (pa_cons (pv 3) (pa_cons (pe_call G__law_of hr__law_of (by rfl) T.m__law_of T.k__law_of T.b__law_of .nil pass0 (pa_cons (pv 3) (pa_cons (pe_lst (pa_cons pe_int (pa_cons pe_int (pa_cons (pe_op op_pow pe_int pe_int) pa_nil)))) pa_nil))) pa_nil))) pa_nil)) (by rfl))
      (pss_cons (ps_if (pt_not (pt_val (pe_call G__law_bare_right hr__law_bare_right (by rfl) T.m__law_bare_right T.k__law_bare_right T.b__law_bare_right .nil pass0 (pa_cons (pe_call G__law_hill_of hr__law_hill_of (by rfl) T.m__law_hill_of T.k__law_hill_of T.b__law_hill_of .nil pass0 (pa_cons (pv 4) (pa_cons pe_int pa_nil))) (pa_cons (pv 4) (pa_cons (pv 6) (pa_cons (pv 7) pa_nil))))))) (pss_one (ps_ret pe_bl)) pss_nil)
      (pss_one (ps_if (pt_not (pt_val (pe_call G__law_pots_right hr__law_pots_right (by rfl) T.m__law_pots_right T.k__law_pots_right T.b__law_pots_right .nil pass0 (pa_cons (pe_call G__law_hill_of hr__law_hill_of (by rfl) T.m__law_hill_of T.k__law_hill_of T.b__law_hill_of .nil pass0 (pa_cons (pv 4) (pa_cons pe_int pa_nil))) (pa_cons (pv 4) (pa_cons (pv 7) pa_nil)))))) (pss_one (ps_ret pe_bl)) pss_nil)))))))))
      (pss_one (ps_ret pe_bl)))), ?_⟩
    walk_at "un"
    refine ⟨_, rfl, a, ns, 3, rfl, hS, hn, by decide, by decide, fun p H1 ms hp x1 hm lm => ?_⟩
    walk_at "un"
    have hC : SqL K H1 p (ms.map V.int) := SqL.of hm
    refine ⟨_, rfl, _, _, rfl, .inl hC, _, _, rfl, _, rfl, by split <;> omega, by rw [List.length_map]; split <;> omega, ?_⟩
    refine for_range (lo := 0) (n := (if ((ms.map V.int).length : Int) > 1 then ((ms.map V.int).length : Int) else 1).toNat) (fun i σ H' => ∃ u2 u3 u4 u5 u6 u7 : Option V, σ = [some (.ref a), some (.ref p), u2, u3, u4, u5, u6, u7] ∧ Ex [] H1 H')
      ⟨_, _, _, _, _, _, rfl, Ex.refl _ _⟩ (fun i σ H' hi hP => ?_) (fun σ H' hP => ?_)
    · obtain ⟨u2, u3, u4, u5, u6, u7, rfl, x2⟩ := hP
      walk_at "un"
      have hi4 : i < 64 := by rw [List.length_map] at hi; split at hi <;> omega
      refine ⟨_, rfl, _, rfl, p, ms, i, by rw [Int.zero_add]; rfl, le_l x2.le0 hC, hi4, fun b H3 hb x3 B3 => ?_⟩
      walk_at "un"
      have e9 : (10 : Int) ^ 9 = 1000000000 := by decide
      have e28 : (10 : Int) ^ 28 = 10000000000000000000000000000 := by decide
      have e35 : ((10 : Int) ^ 7) ^ 5 = 100000000000000000000000000000000000 := by decide
      have e12 : (10 : Nat) ^ 12 = 1000000000000 := by decide
      have l3 : 3 ≤ sizeLine := by decide
      refine ⟨_, rfl, _, rfl, _, _, rfl, rfl, ⟨by decide, by decide, by decide⟩, l3, fun L hL => ?_⟩
      have nb3 : H3 b ≠ none := Bx.there B3
      have B4 := B3.ex (Ex.new (B := []) (o := HO.lst [.int 1, .int 9, .int (10 ^ (9 : Int).toNat)]) hL) (by simp)
      refine ⟨b, L, _, 0, rfl, B4, by decide, .inl (SqL.of (wo_of (by simp only [List.mem_singleton]; exact fun z => nb3 (z ▸ hL)) upd_same)), by show 1 ≤ 3; decide, by show 3 ≤ 1000; decide, fun v H5 hv x5 B5 => ?_⟩
      obtain ⟨V5, rfl, v1, v2⟩ : ∃ V5 : Int, v = .int V5 ∧ 1 ≤ V5 ∧ V5 ≤ 10 ^ 9 := by
        simp only [List.mem_cons, List.not_mem_nil, or_false] at hv
        rcases hv with rfl | rfl | rfl
        · exact ⟨1, rfl, by decide, by decide⟩
        · exact ⟨9, rfl, by decide, by decide⟩
        · exact ⟨_, rfl, by decide, by decide⟩
      refine ⟨b, V5, _, rfl, B5, by decide, v1, by omega, fun r H6 r0 r1 x6 B6 => ?_⟩
      refine ⟨_, _, rfl, rfl, ?_⟩
      walk_at "un"
      refine ⟨3, rfl, by decide, by decide, for_range (lo := 0) (n := 3) (fun j σ H' => ∃ w5 w6 w7 : Option V, σ = [some (.ref a), some (.ref p), some (.int (0 + (i : Int))), some (.ref b), some (.int (1 + r)), w5, w6, w7] ∧ Bx b (32 + 100 * j) H' ∧ Ex [b] H6 H')
        ⟨_, _, _, rfl, B6.mono (by decide), Ex.refl _ _⟩ (fun j σ H' hj hP => ?_) (fun σ H' hP => ?_)⟩
      · obtain ⟨w5, w6, w7, rfl, B7, x7⟩ := hP
        walk_at "un"
        refine ⟨_, rfl, b, 200, _, rfl, B7, by omega, by decide, by decide, fun c H8 c0 c1 x8 B8 => ?_⟩
        refine ⟨_, _, rfl, rfl, ?_⟩
        refine ⟨_, rfl, _, rfl, _, _, rfl, rfl, ⟨by decide, by decide, by decide⟩, l3, fun L2 hL2 => ?_⟩
        have nb8 : H8 b ≠ none := Bx.there B8
        have B9 := B8.ex (Ex.new (B := []) (o := HO.lst [.int 3, .int 1000, .int (10 ^ (28 : Int).toNat)]) hL2) (by simp)
        refine ⟨b, L2, _, _, rfl, B9, by omega, .inl (SqL.of (wo_of (by simp only [List.mem_singleton]; exact fun z => nb8 (z ▸ hL2)) upd_same)), by show 1 ≤ 3; decide, by show 3 ≤ 1000; decide, fun v H10 hv x10 B10 => ?_⟩
        obtain ⟨V6, rfl, v3, v4⟩ : ∃ V6 : Int, v = .int V6 ∧ 1 ≤ V6 ∧ V6 ≤ 10 ^ 28 := by
          simp only [List.mem_cons, List.not_mem_nil, or_false] at hv
          rcases hv with rfl | rfl | rfl
          · exact ⟨3, rfl, by decide, by decide⟩
          · exact ⟨1000, rfl, by decide, by decide⟩
          · exact ⟨_, rfl, by decide, by decide⟩
        refine ⟨b, V6, _, rfl, B10, by omega, v3, by omega, fun y H11 y0 y1 x11 B11 => ?_⟩
        obtain ⟨Y, rfl⟩ : ∃ Y : Nat, y = Y := ⟨y.toNat, by omega⟩
        obtain ⟨C, hC'⟩ : ∃ C : Nat, 1 + c = C := ⟨(1 + c).toNat, by omega⟩
        dsimp only
        rw [hC']
        walk_at "un"
        refine ⟨_, _, rfl, ?_⟩
        have s1 : 1 ≤ 1 + r := by omega
        have s2 : 1 + r ≤ 10 ^ 10 := by have : (10 : Int) ^ 10 = 10000000000 := by decide
                                        omega
        refine ⟨_, rfl, 1 + r, 0, rfl, by decide, by decide, fun h1 H12 n12 x12 D12 => ?_⟩
        refine ⟨_, rfl, _, rfl, _, rfl, ?_⟩
        walk_at "ut"
        rw [Int.zero_mul] at D12
        refine ⟨.ref h1, 1 + r, C, Y, rfl, D12, s1, s2, by omega, by omega, fun H13 x13 => ⟨_, rfl, iteF ?_⟩⟩
        refine ⟨_, rfl, 1 + r, 2, rfl, by decide, by decide, fun h2 H14 n14 x14 D14 => ?_⟩
        refine ⟨_, rfl, _, rfl, ?_⟩
        walk_at "ut"
        refine ⟨.ref h2, 1 + r, Y, rfl, D14, s1, s2, fun H15 x15 => ⟨_, rfl, iteF ?_⟩⟩
        have xx := (x12.trans x13).trans (x14.trans x15)
        refine ⟨_, _, _, rfl, (B11.ex xx (by simp)).mono (by omega), ?_⟩
        exact x7.trans ((x8.trans ((Ex.new hL2).nil.trans (x10.trans x11))).trans xx.nil)
      · obtain ⟨w5, w6, w7, rfl, B7, x7⟩ := hP
        refine ⟨_, _, _, _, _, _, rfl, ?_⟩
        exact x2.trans (Ex.drop hb (x3.nil.trans (((Ex.new hL).trans (x5.trans x6)).trans x7)))
    · obtain ⟨u2, u3, u4, u5, u6, u7, rfl, x2⟩ := hP
      exact q H'
end
theorem all_mk {l : PySem.W.OpenLaw} {w : World} {K : PySem.W.Frag} {h : Heap} {mg : Str → Option Value} {fa : Addr} (X : K.In h) (G : h.Ns mainGlobals mg) (hfa : mg "law" = some (.ref fa))
    {f0 : Addr} {od0 an0 : Option Addr} {sl0 : Array (Option Value)} {oc0 kV0 dc0 pm0 cd0 ct0 : Value}
    (a0 : PySem.W.nsIn K mainGlobals "year_drops" = some (some (.ref f0))) (l0 : K.lookup f0 = some ⟨oc0, od0, .func (PySem.W.fnOf "year_drops" "year_drops" (defArgs s_year_drops) (defBody s_year_drops) (defScope s_year_drops) .none kV0 dc0 pm0 an0 cd0 ct0), sl0⟩) (c0 : PySem.W.codeIn K cd0 "year_drops" = true) (k0 : PySem.W.keepIn K (.ref f0) = true)
    {f1 : Addr} {od1 an1 : Option Addr} {sl1 : Array (Option Value)} {oc1 kV1 dc1 pm1 cd1 ct1 : Value}
    (a1 : PySem.W.nsIn K mainGlobals "given_by" = some (some (.ref f1))) (l1 : K.lookup f1 = some ⟨oc1, od1, .func (PySem.W.fnOf "given_by" "given_by" (defArgs s_given_by) (defBody s_given_by) (defScope s_given_by) .none kV1 dc1 pm1 an1 cd1 ct1), sl1⟩) (c1 : PySem.W.codeIn K cd1 "given_by" = true) (k1 : PySem.W.keepIn K (.ref f1) = true)
    {f2 : Addr} {od2 an2 : Option Addr} {sl2 : Array (Option Value)} {oc2 kV2 dc2 pm2 cd2 ct2 : Value}
    (a2 : PySem.W.nsIn K mainGlobals "open_from" = some (some (.ref f2))) (l2 : K.lookup f2 = some ⟨oc2, od2, .func (PySem.W.fnOf "open_from" "open_from" (defArgs s_open_from) (defBody s_open_from) (defScope s_open_from) .none kV2 dc2 pm2 an2 cd2 ct2), sl2⟩) (c2 : PySem.W.codeIn K cd2 "open_from" = true) (k2 : PySem.W.keepIn K (.ref f2) = true)
    {f3 : Addr} {od3 an3 : Option Addr} {sl3 : Array (Option Value)} {oc3 kV3 dc3 pm3 cd3 ct3 : Value}
    (a3 : PySem.W.nsIn K mainGlobals "day_of" = some (some (.ref f3))) (l3 : K.lookup f3 = some ⟨oc3, od3, .func (PySem.W.fnOf "day_of" "day_of" (defArgs s_day_of) (defBody s_day_of) (defScope s_day_of) .none kV3 dc3 pm3 an3 cd3 ct3), sl3⟩) (c3 : PySem.W.codeIn K cd3 "day_of" = true) (k3 : PySem.W.keepIn K (.ref f3) = true)
    {f4 : Addr} {od4 an4 : Option Addr} {sl4 : Array (Option Value)} {oc4 kV4 dc4 pm4 cd4 ct4 : Value}
    (a4 : PySem.W.nsIn K mainGlobals "given_next" = some (some (.ref f4))) (l4 : K.lookup f4 = some ⟨oc4, od4, .func (PySem.W.fnOf "given_next" "given_next" (defArgs s_given_next) (defBody s_given_next) (defScope s_given_next) .none kV4 dc4 pm4 an4 cd4 ct4), sl4⟩) (c4 : PySem.W.codeIn K cd4 "given_next" = true) (k4 : PySem.W.keepIn K (.ref f4) = true)
    {f5 : Addr} {od5 an5 : Option Addr} {sl5 : Array (Option Value)} {oc5 kV5 dc5 pm5 cd5 ct5 : Value}
    (a5 : PySem.W.nsIn K mainGlobals "stretches" = some (some (.ref f5))) (l5 : K.lookup f5 = some ⟨oc5, od5, .func (PySem.W.fnOf "stretches" "stretches" (defArgs s_stretches) (defBody s_stretches) (defScope s_stretches) .none kV5 dc5 pm5 an5 cd5 ct5), sl5⟩) (c5 : PySem.W.codeIn K cd5 "stretches" = true) (k5 : PySem.W.keepIn K (.ref f5) = true)
    {f6 : Addr} {od6 an6 : Option Addr} {sl6 : Array (Option Value)} {oc6 kV6 dc6 pm6 cd6 ct6 : Value}
    (a6 : PySem.W.nsIn K mainGlobals "open_until" = some (some (.ref f6))) (l6 : K.lookup f6 = some ⟨oc6, od6, .func (PySem.W.fnOf "open_until" "open_until" (defArgs s_open_until) (defBody s_open_until) (defScope s_open_until) .none kV6 dc6 pm6 an6 cd6 ct6), sl6⟩) (c6 : PySem.W.codeIn K cd6 "open_until" = true) (k6 : PySem.W.keepIn K (.ref f6) = true)
    {f7 : Addr} {od7 an7 : Option Addr} {sl7 : Array (Option Value)} {oc7 kV7 dc7 pm7 cd7 ct7 : Value}
    (a7 : PySem.W.nsIn K mainGlobals "number_back" = some (some (.ref f7))) (l7 : K.lookup f7 = some ⟨oc7, od7, .func (PySem.W.fnOf "number_back" "number_back" (defArgs s_number_back) (defBody s_number_back) (defScope s_number_back) .none kV7 dc7 pm7 an7 cd7 ct7), sl7⟩) (c7 : PySem.W.codeIn K cd7 "number_back" = true) (k7 : PySem.W.keepIn K (.ref f7) = true)
    {f8 : Addr} {od8 an8 : Option Addr} {sl8 : Array (Option Value)} {oc8 kV8 dc8 pm8 cd8 ct8 : Value}
    (a8 : PySem.W.nsIn K mainGlobals "latest_line" = some (some (.ref f8))) (l8 : K.lookup f8 = some ⟨oc8, od8, .func (PySem.W.fnOf "latest_line" "latest_line" (defArgs s_latest_line) (defBody s_latest_line) (defScope s_latest_line) .none kV8 dc8 pm8 an8 cd8 ct8), sl8⟩) (c8 : PySem.W.codeIn K cd8 "latest_line" = true) (k8 : PySem.W.keepIn K (.ref f8) = true)
    {f9 : Addr} {od9 an9 : Option Addr} {sl9 : Array (Option Value)} {oc9 kV9 dc9 pm9 cd9 ct9 : Value}
    (a9 : PySem.W.nsIn K mainGlobals "least_pot" = some (some (.ref f9))) (l9 : K.lookup f9 = some ⟨oc9, od9, .func (PySem.W.fnOf "least_pot" "least_pot" (defArgs s_least_pot) (defBody s_least_pot) (defScope s_least_pot) .none kV9 dc9 pm9 an9 cd9 ct9), sl9⟩) (c9 : PySem.W.codeIn K cd9 "least_pot" = true) (k9 : PySem.W.keepIn K (.ref f9) = true)
    {f10 : Addr} {od10 an10 : Option Addr} {sl10 : Array (Option Value)} {oc10 kV10 dc10 pm10 cd10 ct10 : Value}
    (a10 : PySem.W.nsIn K mainGlobals "line_bounds" = some (some (.ref f10))) (l10 : K.lookup f10 = some ⟨oc10, od10, .func (PySem.W.fnOf "line_bounds" "line_bounds" (defArgs s_line_bounds) (defBody s_line_bounds) (defScope s_line_bounds) .none kV10 dc10 pm10 an10 cd10 ct10), sl10⟩) (c10 : PySem.W.codeIn K cd10 "line_bounds" = true) (k10 : PySem.W.keepIn K (.ref f10) = true)
    {f11 : Addr} {od11 an11 : Option Addr} {sl11 : Array (Option Value)} {oc11 kV11 dc11 pm11 cd11 ct11 : Value}
    (a11 : PySem.W.nsIn K mainGlobals "pots_seen" = some (some (.ref f11))) (l11 : K.lookup f11 = some ⟨oc11, od11, .func (PySem.W.fnOf "pots_seen" "pots_seen" (defArgs s_pots_seen) (defBody s_pots_seen) (defScope s_pots_seen) .none kV11 dc11 pm11 an11 cd11 ct11), sl11⟩) (c11 : PySem.W.codeIn K cd11 "pots_seen" = true) (k11 : PySem.W.keepIn K (.ref f11) = true)
    {f12 : Addr} {od12 an12 : Option Addr} {sl12 : Array (Option Value)} {oc12 kV12 dc12 pm12 cd12 ct12 : Value}
    (a12 : PySem.W.nsIn K mainGlobals "_law_box" = some (some (.ref f12))) (l12 : K.lookup f12 = some ⟨oc12, od12, .func (PySem.W.fnOf "_law_box" "_law_box" (defArgs s__law_box) (defBody s__law_box) (defScope s__law_box) .none kV12 dc12 pm12 an12 cd12 ct12), sl12⟩) (c12 : PySem.W.codeIn K cd12 "_law_box" = true) (k12 : PySem.W.keepIn K (.ref f12) = true)
    {f13 : Addr} {od13 an13 : Option Addr} {sl13 : Array (Option Value)} {oc13 kV13 dc13 pm13 cd13 ct13 : Value}
    (a13 : PySem.W.nsIn K mainGlobals "_law_take" = some (some (.ref f13))) (l13 : K.lookup f13 = some ⟨oc13, od13, .func (PySem.W.fnOf "_law_take" "_law_take" (defArgs s__law_take) (defBody s__law_take) (defScope s__law_take) .none kV13 dc13 pm13 an13 cd13 ct13), sl13⟩) (c13 : PySem.W.codeIn K cd13 "_law_take" = true) (k13 : PySem.W.keepIn K (.ref f13) = true)
    {f14 : Addr} {od14 an14 : Option Addr} {sl14 : Array (Option Value)} {oc14 kV14 dc14 pm14 cd14 ct14 : Value}
    (a14 : PySem.W.nsIn K mainGlobals "_law_folded" = some (some (.ref f14))) (l14 : K.lookup f14 = some ⟨oc14, od14, .func (PySem.W.fnOf "_law_folded" "_law_folded" (defArgs s__law_folded) (defBody s__law_folded) (defScope s__law_folded) .none kV14 dc14 pm14 an14 cd14 ct14), sl14⟩) (c14 : PySem.W.codeIn K cd14 "_law_folded" = true) (k14 : PySem.W.keepIn K (.ref f14) = true)
    {f15 : Addr} {od15 an15 : Option Addr} {sl15 : Array (Option Value)} {oc15 kV15 dc15 pm15 cd15 ct15 : Value}
    (a15 : PySem.W.nsIn K mainGlobals "_law_same" = some (some (.ref f15))) (l15 : K.lookup f15 = some ⟨oc15, od15, .func (PySem.W.fnOf "_law_same" "_law_same" (defArgs s__law_same) (defBody s__law_same) (defScope s__law_same) .none kV15 dc15 pm15 an15 cd15 ct15), sl15⟩) (c15 : PySem.W.codeIn K cd15 "_law_same" = true) (k15 : PySem.W.keepIn K (.ref f15) = true)
    {f16 : Addr} {od16 an16 : Option Addr} {sl16 : Array (Option Value)} {oc16 kV16 dc16 pm16 cd16 ct16 : Value}
    (a16 : PySem.W.nsIn K mainGlobals "_law_of" = some (some (.ref f16))) (l16 : K.lookup f16 = some ⟨oc16, od16, .func (PySem.W.fnOf "_law_of" "_law_of" (defArgs s__law_of) (defBody s__law_of) (defScope s__law_of) .none kV16 dc16 pm16 an16 cd16 ct16), sl16⟩) (c16 : PySem.W.codeIn K cd16 "_law_of" = true) (k16 : PySem.W.keepIn K (.ref f16) = true)
    {f17 : Addr} {od17 an17 : Option Addr} {sl17 : Array (Option Value)} {oc17 kV17 dc17 pm17 cd17 ct17 : Value}
    (a17 : PySem.W.nsIn K mainGlobals "_law_hill_of" = some (some (.ref f17))) (l17 : K.lookup f17 = some ⟨oc17, od17, .func (PySem.W.fnOf "_law_hill_of" "_law_hill_of" (defArgs s__law_hill_of) (defBody s__law_hill_of) (defScope s__law_hill_of) .none kV17 dc17 pm17 an17 cd17 ct17), sl17⟩) (c17 : PySem.W.codeIn K cd17 "_law_hill_of" = true) (k17 : PySem.W.keepIn K (.ref f17) = true)
    {f18 : Addr} {od18 an18 : Option Addr} {sl18 : Array (Option Value)} {oc18 kV18 dc18 pm18 cd18 ct18 : Value}
    (a18 : PySem.W.nsIn K mainGlobals "_law_bare_right" = some (some (.ref f18))) (l18 : K.lookup f18 = some ⟨oc18, od18, .func (PySem.W.fnOf "_law_bare_right" "_law_bare_right" (defArgs s__law_bare_right) (defBody s__law_bare_right) (defScope s__law_bare_right) .none kV18 dc18 pm18 an18 cd18 ct18), sl18⟩) (c18 : PySem.W.codeIn K cd18 "_law_bare_right" = true) (k18 : PySem.W.keepIn K (.ref f18) = true)
    {f19 : Addr} {od19 an19 : Option Addr} {sl19 : Array (Option Value)} {oc19 kV19 dc19 pm19 cd19 ct19 : Value}
    (a19 : PySem.W.nsIn K mainGlobals "_law_pots_right" = some (some (.ref f19))) (l19 : K.lookup f19 = some ⟨oc19, od19, .func (PySem.W.fnOf "_law_pots_right" "_law_pots_right" (defArgs s__law_pots_right) (defBody s__law_pots_right) (defScope s__law_pots_right) .none kV19 dc19 pm19 an19 cd19 ct19), sl19⟩) (c19 : PySem.W.codeIn K cd19 "_law_pots_right" = true) (k19 : PySem.W.keepIn K (.ref f19) = true)
    {f20 : Addr} {od20 an20 : Option Addr} {sl20 : Array (Option Value)} {oc20 kV20 dc20 pm20 cd20 ct20 : Value}
    (a20 : PySem.W.nsIn K mainGlobals "law" = some (some (.ref f20))) (l20 : K.lookup f20 = some ⟨oc20, od20, .func (PySem.W.fnOf "law" "law" (defArgs s_law) (defBody s_law) (defScope s_law) .none kV20 dc20 pm20 an20 cd20 ct20), sl20⟩) (c20 : PySem.W.codeIn K cd20 "law" = true) (k20 : PySem.W.keepIn K (.ref f20) = true)
    (z0 : PySem.W.nsIn K mainGlobals "len" = some none)
    (z1 : PySem.W.nsIn K mainGlobals "abs" = some none)
    (z2 : PySem.W.nsIn K mainGlobals "divmod" = some none)
    (z3 : PySem.W.nsIn K mainGlobals "sum" = some none)
    (z4 : PySem.W.nsIn K mainGlobals "all" = some none)
    (z5 : PySem.W.nsIn K mainGlobals "int" = some none)
    (z6 : PySem.W.nsIn K mainGlobals "bool" = some none)
    (z7 : PySem.W.nsIn K mainGlobals "list" = some none)
    (z8 : PySem.W.nsIn K mainGlobals "tuple" = some none)
    (z9 : PySem.W.nsIn K mainGlobals "str" = some none)
    (z10 : PySem.W.nsIn K mainGlobals "max" = some none)
    (z11 : PySem.W.nsIn K mainGlobals "min" = some none)
    (z12 : PySem.W.nsIn K mainGlobals "isinstance" = some none)
    (z13 : PySem.W.nsIn K mainGlobals "range" = some none)
    (z14 : PySem.W.nsIn K mainGlobals "enumerate" = some none)
    (z15 : PySem.W.nsIn K mainGlobals "zip" = some none)
    (z16 : PySem.W.nsIn K mainGlobals "set" = some none)
    (z17 : PySem.W.nsIn K mainGlobals "sorted" = some none)
    : ∃ fd : FuncData, (∀ (s : Shared) (v : Value), BindsTo s fd ⟨[v], []⟩ [("_law_script", v)]) ∧ ∀ base : Heap, K.In base → base.Ns mainGlobals mg → FnOk l.prog w K mg base CX0 lawLevel fa fd ["_law_script"] (spLaw K) := by
  have e := hfa.symm.trans (PySem.W.mg_of X G a20)
  cases e
  let T : Txt K mg := {
    a_year_drops := f0, d_year_drops := _, F_year_drops := fun_mk (st := s_year_drops) l0 c0 k0, m_year_drops := PySem.W.mg_of X G a0,
    a_given_by := f1, d_given_by := _, F_given_by := fun_mk (st := s_given_by) l1 c1 k1, m_given_by := PySem.W.mg_of X G a1,
    a_open_from := f2, d_open_from := _, F_open_from := fun_mk (st := s_open_from) l2 c2 k2, m_open_from := PySem.W.mg_of X G a2,
    a_day_of := f3, d_day_of := _, F_day_of := fun_mk (st := s_day_of) l3 c3 k3, m_day_of := PySem.W.mg_of X G a3,
    a_given_next := f4, d_given_next := _, F_given_next := fun_mk (st := s_given_next) l4 c4 k4, m_given_next := PySem.W.mg_of X G a4,
    a_stretches := f5, d_stretches := _, F_stretches := fun_mk (st := s_stretches) l5 c5 k5, m_stretches := PySem.W.mg_of X G a5,
    a_open_until := f6, d_open_until := _, F_open_until := fun_mk (st := s_open_until) l6 c6 k6, m_open_until := PySem.W.mg_of X G a6,
    a_number_back := f7, d_number_back := _, F_number_back := fun_mk (st := s_number_back) l7 c7 k7, m_number_back := PySem.W.mg_of X G a7,
    a_latest_line := f8, d_latest_line := _, F_latest_line := fun_mk (st := s_latest_line) l8 c8 k8, m_latest_line := PySem.W.mg_of X G a8,
    a_least_pot := f9, d_least_pot := _, F_least_pot := fun_mk (st := s_least_pot) l9 c9 k9, m_least_pot := PySem.W.mg_of X G a9,
    a_line_bounds := f10, d_line_bounds := _, F_line_bounds := fun_mk (st := s_line_bounds) l10 c10 k10, m_line_bounds := PySem.W.mg_of X G a10,
    a_pots_seen := f11, d_pots_seen := _, F_pots_seen := fun_mk (st := s_pots_seen) l11 c11 k11, m_pots_seen := PySem.W.mg_of X G a11,
    a__law_box := f12, d__law_box := _, F__law_box := fun_mk (st := s__law_box) l12 c12 k12, m__law_box := PySem.W.mg_of X G a12,
    a__law_take := f13, d__law_take := _, F__law_take := fun_mk (st := s__law_take) l13 c13 k13, m__law_take := PySem.W.mg_of X G a13,
    a__law_folded := f14, d__law_folded := _, F__law_folded := fun_mk (st := s__law_folded) l14 c14 k14, m__law_folded := PySem.W.mg_of X G a14,
    a__law_same := f15, d__law_same := _, F__law_same := fun_mk (st := s__law_same) l15 c15 k15, m__law_same := PySem.W.mg_of X G a15,
    a__law_of := f16, d__law_of := _, F__law_of := fun_mk (st := s__law_of) l16 c16 k16, m__law_of := PySem.W.mg_of X G a16,
    a__law_hill_of := f17, d__law_hill_of := _, F__law_hill_of := fun_mk (st := s__law_hill_of) l17 c17 k17, m__law_hill_of := PySem.W.mg_of X G a17,
    a__law_bare_right := f18, d__law_bare_right := _, F__law_bare_right := fun_mk (st := s__law_bare_right) l18 c18 k18, m__law_bare_right := PySem.W.mg_of X G a18,
    a__law_pots_right := f19, d__law_pots_right := _, F__law_pots_right := fun_mk (st := s__law_pots_right) l19 c19 k19, m__law_pots_right := PySem.W.mg_of X G a19,
    a_law := _, d_law := _, F_law := fun_mk (st := s_law) l20 c20 k20, m_law := PySem.W.mg_of X G a20,
    z_len := PySem.W.mg_none_of X G z0, z_abs := PySem.W.mg_none_of X G z1, z_divmod := PySem.W.mg_none_of X G z2, z_sum := PySem.W.mg_none_of X G z3, z_all := PySem.W.mg_none_of X G z4, z_int := PySem.W.mg_none_of X G z5, z_bool := PySem.W.mg_none_of X G z6, z_list := PySem.W.mg_none_of X G z7, z_tuple := PySem.W.mg_none_of X G z8, z_str := PySem.W.mg_none_of X G z9, z_max := PySem.W.mg_none_of X G z10, z_min := PySem.W.mg_none_of X G z11, z_isinstance := PySem.W.mg_none_of X G z12, z_range := PySem.W.mg_none_of X G z13, z_enumerate := PySem.W.mg_none_of X G z14, z_zip := PySem.W.mg_none_of X G z15, z_set := PySem.W.mg_none_of X G z16, z_sorted := PySem.W.mg_none_of X G z17 }
  exact ⟨PySem.W.fnOf "law" "law" (defArgs s_law) (defBody s_law) (defScope s_law) .none kV20 dc20 pm20 an20 cd20 ct20, fun s v => .of_eq rfl, fun base _ _ => ok_law T⟩

end Z28
open PySem PySem.W PyProof.Rows
set_option maxHeartbeats 0 in
theorem PySem.Challenge.cw_honeyturns_k28_back_by_hand_holds : PySem.Challenge.rw_honeyturns_k28_back_by_hand.Holds := by
  w_on; o_law; k_head; (case hw => w_witness2)
  k_fill
  refine L2.walk_of (l := PySem.Challenge.rw_honeyturns_k28_back_by_hand) (n := 63) (k := Z28.lawLevel) (x := "_law_script") (CX := fun _ => L2.CX0) (sp := fun w => Z28.spLaw _) rfl (by decide) rfl ⟨rfl, by decide, by decide⟩ (fun w h Y => PySem.W.kIn_of Y) ?F (fun _ _ a ns hl _ hS => ⟨a, ns, rfl, hS, hl, fun _ => rfl⟩) (fun _ _ _ _ _ h => h)
  case F =>
    intro w mg fa h KX G hmg
    refine' Z28.all_mk KX G hmg ?a0 ?l0 ?c0 ?k0 ?a1 ?l1 ?c1 ?k1 ?a2 ?l2 ?c2 ?k2 ?a3 ?l3 ?c3 ?k3 ?a4 ?l4 ?c4 ?k4 ?a5 ?l5 ?c5 ?k5 ?a6 ?l6 ?c6 ?k6 ?a7 ?l7 ?c7 ?k7 ?a8 ?l8 ?c8 ?k8 ?a9 ?l9 ?c9 ?k9 ?a10 ?l10 ?c10 ?k10 ?a11 ?l11 ?c11 ?k11 ?a12 ?l12 ?c12 ?k12 ?a13 ?l13 ?c13 ?k13 ?a14 ?l14 ?c14 ?k14 ?a15 ?l15 ?c15 ?k15 ?a16 ?l16 ?c16 ?k16 ?a17 ?l17 ?c17 ?k17 ?a18 ?l18 ?c18 ?k18 ?a19 ?l19 ?c19 ?k19 ?a20 ?l20 ?c20 ?k20 ?z0 ?z1 ?z2 ?z3 ?z4 ?z5 ?z6 ?z7 ?z8 ?z9 ?z10 ?z11 ?z12 ?z13 ?z14 ?z15 ?z16 ?z17
    (case a0 => k_is); (case l0 => k_is); (case c0 => k_is); (case k0 => k_is); (case a1 => k_is); (case l1 => k_is); (case c1 => k_is); (case k1 => k_is); (case a2 => k_is); (case l2 => k_is); (case c2 => k_is); (case k2 => k_is); (case a3 => k_is); (case l3 => k_is); (case c3 => k_is); (case k3 => k_is); (case a4 => k_is); (case l4 => k_is); (case c4 => k_is); (case k4 => k_is); (case a5 => k_is); (case l5 => k_is); (case c5 => k_is); (case k5 => k_is); (case a6 => k_is); (case l6 => k_is); (case c6 => k_is); (case k6 => k_is); (case a7 => k_is); (case l7 => k_is); (case c7 => k_is); (case k7 => k_is); (case a8 => k_is); (case l8 => k_is); (case c8 => k_is); (case k8 => k_is); (case a9 => k_is); (case l9 => k_is); (case c9 => k_is); (case k9 => k_is); (case a10 => k_is); (case l10 => k_is); (case c10 => k_is); (case k10 => k_is); (case a11 => k_is); (case l11 => k_is); (case c11 => k_is); (case k11 => k_is); (case a12 => k_is); (case l12 => k_is); (case c12 => k_is); (case k12 => k_is); (case a13 => k_is); (case l13 => k_is); (case c13 => k_is); (case k13 => k_is); (case a14 => k_is); (case l14 => k_is); (case c14 => k_is); (case k14 => k_is); (case a15 => k_is); (case l15 => k_is); (case c15 => k_is); (case k15 => k_is); (case a16 => k_is); (case l16 => k_is); (case c16 => k_is); (case k16 => k_is); (case a17 => k_is); (case l17 => k_is); (case c17 => k_is); (case k17 => k_is); (case a18 => k_is); (case l18 => k_is); (case c18 => k_is); (case k18 => k_is); (case a19 => k_is); (case l19 => k_is); (case c19 => k_is); (case k19 => k_is); (case a20 => k_is); (case l20 => k_is); (case c20 => k_is); (case k20 => k_is); (case z0 => k_is); (case z1 => k_is); (case z2 => k_is); (case z3 => k_is); (case z4 => k_is); (case z5 => k_is); (case z6 => k_is); (case z7 => k_is); (case z8 => k_is); (case z9 => k_is); (case z10 => k_is); (case z11 => k_is); (case z12 => k_is); (case z13 => k_is); (case z14 => k_is); (case z15 => k_is); (case z16 => k_is); (case z17 => k_is)

