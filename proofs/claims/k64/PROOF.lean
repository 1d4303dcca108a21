import PyProof.Rows.All
import Wide.All
import OpenK.AllK
import Wide.FinOn
import HandS.ForMost
import HandS.IsInst
import HandS.WideBits
import HandS.Wide
import HandS.Zip
import HandS.Style
import HandS.TupAny
import KE.KTupSum
import PyProof.ReprRoads
import PyProof.LongRange
import HandS.Nested
import HandS.EndTab
import HandS.Rev
import HandS.Small
import HandS.Gcd
import HandS.SortRule
import HandS.Comp
import HandS.NoneIn
import PyProof.Rows.IntBool
import PyProof.AutoIntG7
import HandS.TupSets
import KE.DataMinMax
import HandS.Walk
import HandS.SetFor
import HandS.Strs
import PySem.Challenge.RW_honeyturns_k64_whole_spares_or_spills
set_option Elab.async false
set_option linter.all false
set_option maxRecDepth 100000
set_option maxHeartbeats 2000000
namespace Hz
open PySem PySem.Spec PyProof.Rows L2

/-! ### rules that the layer lacks -/
section
variable {X : Cx} {CX : CXT} {k : Nat} {f : Addr} {fd : FuncData} {ps ks : List Str} {sp : Sp} {E : XK} {x : Str} {p pos : Pos} {kws : List Keyword} {tk : TA}
variable {g : List Value → List Value → List Value} {gV : List V → List V → List V}
/-- f(k = v, ..), all by names -/
theorem pe_callK0 (F : FnOk X.prog X.w X.K X.mg X.base CX k f fd ps sp) (hr : Room k X.A) (hg : Gl X x) (hm : X.mg x = some (.ref f)) (hk : PySem.W.keepIn X.K (.ref f) = true) (hb : KBinds X.K fd ps ks g gV) (hx : Passes CX X E)
    (hkw : PK X kws tk) (hall : (backToKw pos (keywordEach kws X.env)).all (·.1.isSome) = true := by rfl) (hks : (backToKw pos (keywordEach kws X.env)).filterMap (·.1) = ks := by rfl)
    (hdb : (x == ("__debug__" : Str)) = false := by decide)
    (hpl : ((backTo pos (starEach [] X.env)).any (·.1) || (backToKw pos (keywordEach kws X.env)).any (·.1.isNone)) = false := by rfl) :
    PE X (.Call (.Name x p) [] kws pos) (tCallK sp gV E tNil tk) := by
  refine ⟨fun pins s σ H Q I h => ?_⟩
  refine wpAny_Call_Name_kw (ld_glob I hg hm ?_ hdb)
  refine PySem.W.callWith_KW0 (h₀ := X.base) I.ok.mod.kin hk hall ?_ hpl
  refine thn (hkw.run pos pins s σ H _ I h) fun ws s2 ⟨zs, H2, I2, rz, q2⟩ => ⟨I2.kIn, ?_⟩
  rw [hks]
  exact run_fnk (us := []) (vs := []) F hr hb hx I2 .nil rz q2
end

/-! ### what may be walked: a list or a tuple -/
def Sq (K : PySem.W.Frag) (H : Hp) (a : Addr) (xs : List V) : Prop := SqL K H a xs ∨ SqT K H a xs
section
variable {X : Cx} {tg : Expr}
theorem pi_or {e : Expr} {w1 w2 : TI} (h1 : PI X tg e w1) (h2 : PI X tg e w2) : PI X tg e (fun σ H R => w1 σ H R ∨ w2 σ H R) :=
  ⟨fun pins s σ H R I h => h.elim (h1.run pins s σ H R I) (h2.run pins s σ H R I)⟩
theorem pi_seq {l : Expr} {tl : TE} (hl : PE X l tl) : PI X tg l (fun σ H R => iList X.K tl σ H R ∨ iTup X.K tl σ H R) := pi_or (pi_list hl) (pi_tup hl)
def rSlB (K : PySem.W.Frag) : V → Option Int → Option Int → Hp → VK → Prop := fun x lo hi H Q => rSlL K x lo hi H Q ∨ rSlA K x lo hi H Q
theorem sl_seq : SlR X (rSlB X.K) := sl_list.or sl_tupA
theorem ix_any : IxR X (rIx X.K) := ix_seq
theorem sum_tup {prog : Program} {w : World} {A : Around} {E : Value → Shared → Prop} {s : Shared} {t : Addr} {its : List Value} {ns : List Int} {Q : Value → Shared → Prop}
    (hh : A.handled = none) (hl : s.heap.IsTuple t its.toArray) (hi : IntsAre its ns)
    (h : ∀ h' tk t', (∀ b o, s.heap.get? b = some o → h'.get? b = some o) → Q (.int ns.sum t') { s with heap := h', toks := tk }) : wpAny (model prog w) A (call (.builtin "sum") [.ref t]) Q E s := by
  obtain ⟨xs, e⟩ := hi.allInts.items
  have hn : numsOf (intItems xs).toList = ns := by rw [← e]; exact hi.numsOf
  rw [nums_intItems] at hn
  rw [e] at hl
  refine PySem.W.ktm_sumG hh hl fun h' tk t' hk => ?_
  have := h h' tk t' hk
  rw [preSum_eq, List.take_of_length_le (by simp), hn]; exact this
def rSumA (K : PySem.W.Frag) : List V → Hp → VK → Prop := fun vs H Q => ∃ (a : Addr) (ns : List Int), vs = [V.ref a] ∧ Sq K H a (ns.map V.int) ∧ Q (.int ns.sum) H
theorem cr_sumA (hc : X.calm = true) : CallR X (.builtin "sum") (rSumA X.K) := by
  intro pins s σ H vs us Q I r h
  obtain ⟨a, ns, rfl, hs, q⟩ := h
  rcases hs with hs | hs
  · exact cr_sum hc pins s σ H [V.ref a] us Q I r ⟨a, ns, rfl, hs, q⟩
  · obtain ⟨its, rv, ht, _⟩ := I.tuple hs
    rw [Vals.ref1 r]
    exact sum_tup (I.ok.hd hc) ht rv.ints fun h' tk t' hk => ⟨.int _, H, I.kept hk, ⟨_, rfl⟩, q⟩
end
end Hz
namespace Hz
open PySem PySem.Spec PyProof.Rows L2

/-! ### heaps but for some addresses -/
def wo (B : List Addr) (H : Hp) : Hp := fun a => if a ∈ B then none else H a
/-- all that was tracked outside B is as it was; what was tracked is -/
def Ex (B : List Addr) (H H' : Hp) : Prop := (∀ a o, a ∉ B → H a = some o → H' a = some o) ∧ ∀ a, H' a = none → H a = none
theorem Ex.get {B : List Addr} {H H' : Hp} (e : Ex B H H') {a : Addr} {o : HO} (n : a ∉ B) (h : H a = some o) : H' a = some o := e.1 a o n h
theorem Ex.free {B : List Addr} {H H' : Hp} {p : Addr} (e : Ex B H H') (h : H' p = none) : H p = none := e.2 p h
theorem Ex.refl (B : List Addr) (H : Hp) : Ex B H H := ⟨fun _ _ _ h => h, fun _ h => h⟩
theorem Ex.trans {B : List Addr} {H H1 H2 : Hp} (a : Ex B H H1) (b : Ex B H1 H2) : Ex B H H2 := ⟨fun x o n h => b.1 x o n (a.1 x o n h), fun x h => a.2 x (b.2 x h)⟩
theorem upd_free {H : Hp} {p a : Addr} {o : HO} (h : upd H p o a = none) : H a = none := by
  by_cases z : a = p
  · subst z; rw [upd_same] at h; cases h
  · rw [upd_ne z] at h; exact h
theorem Ex.new {B : List Addr} {H : Hp} {p : Addr} {o : HO} (h : H p = none) : Ex B H (upd H p o) := ⟨fun a u _ e => by
  rw [upd_ne (ne_of_none e h)]
  exact e, fun _ => upd_free⟩
theorem Ex.mut {B : List Addr} {H : Hp} {p : Addr} {o : HO} (h : p ∈ B) : Ex B H (upd H p o) := ⟨fun a u n e => by
  rw [upd_ne (by intro z; subst z; exact n h)]
  exact e, fun _ => upd_free⟩
/-- a new object that changes afterwards -/
theorem Ex.mutNew {B : List Addr} {H H1 : Hp} {p : Addr} {o : HO} (h : H p = none) (e1 : Ex B H H1) : Ex B H (upd H1 p o) := ⟨fun a u n e => by
  rw [upd_ne (ne_of_none e h)]
  exact e1.1 a u n e, fun a q => e1.2 a (upd_free q)⟩
theorem Ex.mutNew' {B : List Addr} {H H1 : Hp} {p : Addr} {o : HO} (e1 : Ex B H H1) (h : H p = none) : Ex B H (upd H1 p o) := Ex.mutNew h e1
theorem Ex.sub {B C : List Addr} {H H' : Hp} (h : ∀ a, a ∈ B → a ∈ C) (e : Ex B H H') : Ex C H H' := ⟨fun a o n q => e.1 a o (fun z => n (h a z)) q, e.2⟩
/-- what is new at the start need not be kept -/
theorem Ex.drop {B : List Addr} {H H' : Hp} {p : Addr} (h : H p = none) (e : Ex (p :: B) H H') : Ex B H H' := ⟨fun a o n q =>
  e.1 a o (fun z => by
    rcases List.mem_cons.mp z with z | z
    · rw [z, h] at q; cases q
    · exact n z) q, e.2⟩
theorem Ex.nil {B : List Addr} {H H' : Hp} (e : Ex [] H H') : Ex B H H' := e.sub fun _ h => by cases h
theorem wo_some {B : List Addr} {H : Hp} {a : Addr} {o : HO} (h : wo B H a = some o) : a ∉ B ∧ H a = some o := by
  unfold wo at h
  by_cases z : a ∈ B
  · rw [if_pos z] at h; cases h
  · rw [if_neg z] at h; exact ⟨z, h⟩
theorem wo_of {B : List Addr} {H : Hp} {a : Addr} {o : HO} (n : a ∉ B) (h : H a = some o) : wo B H a = some o := by
  unfold wo
  rw [if_neg n]; exact h
theorem Ex.wo {B : List Addr} {H H' : Hp} (e : Ex B H H') : ∀ a o, Hz.wo B H a = some o → Hz.wo B H' a = some o := fun a o h => by
  obtain ⟨n, q⟩ := wo_some h
  exact wo_of n (e.1 a o n q)
theorem wo_nil (H : Hp) : wo [] H = H := by
  funext a
  unfold wo
  simp
/-- a read of a part is a read of the whole -/
def Le (H H' : Hp) : Prop := ∀ a o, H a = some o → H' a = some o
theorem wo_le (B : List Addr) (H : Hp) : Le (wo B H) H := fun _ _ h => (wo_some h).2
theorem wo_le2 {B C : List Addr} {H : Hp} (h : ∀ a, a ∈ B → a ∈ C) : Le (wo C H) (wo B H) := fun _ _ q => by
  obtain ⟨n, q⟩ := wo_some q
  exact wo_of (fun z => n (h _ z)) q
theorem Ex.le {B : List Addr} {H H' : Hp} (e : Ex B H H') : Le (Hz.wo B H) (Hz.wo B H') := e.wo
section
variable {K : PySem.W.Frag} {H H' : Hp} {a : Addr} {xs : List V}
theorem le_rd {u : HO} (e : Le H H') (h : Rd H a u) : Rd H' a u := by
  rcases h with h | ⟨o, h⟩
  · exact .inl (e _ _ h)
  · exact .inr ⟨o, e _ _ h⟩
theorem le_l (e : Le H H') (h : SqL K H a xs) : SqL K H' a xs := by
  rcases h with h | h
  · exact .inl (le_rd e h)
  · exact .inr h
theorem le_t (e : Le H H') (h : SqT K H a xs) : SqT K H' a xs := by
  rcases h with h | h
  · exact .inl (le_rd e h)
  · exact .inr h
theorem le_s (e : Le H H') (h : Sq K H a xs) : Sq K H' a xs := by
  rcases h with h | h
  · exact .inl (le_l e h)
  · exact .inr (le_t e h)
end
mutual
theorem dp_le {K : PySem.W.Frag} {H H' : Hp} (e : Le H H') : ∀ (d : PyData) (v : V), Dp K H v d → Dp K H' v d
  | .none, _, h => by cases h; exact .non
  | .bool b, _, h => by cases h; exact .bl b
  | .int i, _, h => by cases h; exact .int i
  | .str x, _, h => by cases h; exact .str x
  | .list ds, _, h => by cases h with | lst h1 h2 => exact .lst (le_l e h1) (dpa_le e ds _ h2)
  | .tuple ds, _, h => by cases h with | tup h1 h2 => exact .tup (le_t e h1) (dpa_le e ds _ h2)
  | .dict _, _, h => by cases h
theorem dpa_le {K : PySem.W.Frag} {H H' : Hp} (e : Le H H') : ∀ (ds : List PyData) (vs : List V), DpAll K H vs ds → DpAll K H' vs ds
  | [], _, h => by cases h; exact .nil
  | d :: ds, _, h => by cases h with | cons h1 h2 => exact .cons (dp_le e d _ h1) (dpa_le e ds _ h2)
end

/-! ### steps of a reading -/
section
variable {K : PySem.W.Frag} {H : Hp} {a : Addr} {xs : List V} {i : Int} {v : V} {Q : VK}
theorem z_ix (h : Sq K H a xs) (hv : atI xs i = some v) (q : Q v H) : rIx K (.ref a) (.int i) H Q := by
  rcases h with h | h
  · exact .inl ⟨a, xs, i, v, rfl, rfl, h, hv, q⟩
  · exact .inr (.inl ⟨a, xs, i, v, rfl, rfl, h, hv, q⟩)
theorem z_ixL (h : H a = some (.lst xs)) (hv : atI xs i = some v) (q : Q v H) : rIx K (.ref a) (.int i) H Q := z_ix (.inl (SqL.of h)) hv q
end

/-! ### the box of the laws: three numbers in a list, the third counts -/
def Bx (b : Addr) (n : Nat) (H : Hp) : Prop := ∃ x y c : Int, H b = some (.lst [.int x, .int y, .int c]) ∧ 0 ≤ x ∧ 0 ≤ y ∧ y < 2147483647 ∧ 0 ≤ c ∧ c ≤ n
theorem Bx.mono {b : Addr} {n m : Nat} {H : Hp} (h : Bx b n H) (l : n ≤ m) : Bx b m H := by
  obtain ⟨x, y, c, h1, h2, h3, h4, h5, h6⟩ := h
  exact ⟨x, y, c, h1, h2, h3, h4, h5, by omega⟩
theorem Bx.ex {B : List Addr} {b : Addr} {n : Nat} {H H' : Hp} (h : Bx b n H) (e : Ex B H H') (hb : b ∉ B) : Bx b n H' := by
  obtain ⟨x, y, c, h1, h2, h3, h4, h5, h6⟩ := h
  exact ⟨x, y, c, e.1 _ _ hb h1, h2, h3, h4, h5, h6⟩

/-! ### numbers -/
theorem log2_small {j : Int} (h0 : 0 < j) (h : j ≤ 10 ^ 60) : j.natAbs.log2 < 9000 := by
  have h1 : j.natAbs ≤ 10 ^ 60 := by omega
  have h2 : j.natAbs < 2 ^ 200 := Nat.lt_of_le_of_lt h1 (by decide)
  exact Nat.lt_of_lt_of_le (PySem.Flt.log2_lt_of (by decide) h2) (by decide)
theorem divp_of {i j : Int} (h0 : 0 < j) (h : j ≤ 10 ^ 60) : CDivP i j := ⟨h0, PyProof.noPylong_of_log2 (log2_small h0 h)⟩
theorem divw_of {i j : Int} (h0 : 0 < j) (h : j ≤ 10 ^ 60) : CDivW i j := ⟨h0, log2_small h0 h⟩
theorem sl2 : 2 ≤ sizeLine := by decide
theorem sz_of {n : Nat} (h : n ≤ 100000) : n ≤ sizeLine := Nat.le_trans h (by decide)
theorem sz_lt {n : Nat} (h : n < 100000) : n < sizeLine := Nat.lt_of_lt_of_le h (by decide)
theorem small2 {i : Int} (h0 : 0 ≤ i) (h : i < 2 ^ 64) : -(2 ^ 64) < i ∧ i < 2 ^ 64 := ⟨by omega, h⟩

/-- a tuple (t) or a list -/
def SqX (t : Bool) (K : PySem.W.Frag) (H : Hp) (a : Addr) (xs : List V) : Prop := if t = true then SqT K H a xs else SqL K H a xs
section
variable {t : Bool} {K : PySem.W.Frag} {H H' : Hp} {a : Addr} {xs : List V}
theorem SqX.sq (h : SqX t K H a xs) : Sq K H a xs := by
  cases t with
  | true => exact .inr h
  | false => exact .inl h
theorem le_x (e : Le H H') (h : SqX t K H a xs) : SqX t K H' a xs := by
  cases t with
  | true => exact le_t e (show SqT K H a xs from h)
  | false => exact le_l e (show SqL K H a xs from h)
end
/-! ### loops -/
section
variable {K : PySem.W.Frag} {a : Addr} {xs : List V} {g : TG} {tb : TS} {D : Ends} {σ : L2.St} {H : Hp} {B : List Addr} {tl : TE}
theorem for_enum (Pv : Nat → L2.St → Hp → Prop) (h0 : Pv 0 σ H) (hl : ∀ i σ H, i ≤ xs.length → Pv i σ H → SqL K H a xs)
    (hs : ∀ (i : Nat) (x : V) (T : Addr) (σ : L2.St) (H : Hp), xs[i]? = some x → Pv i σ H → H T = none → g (.ref T) σ (upd H T (.tup [.int (i : Nat), x])) fun σ2 H2 => tb { D with nx := Pv (i + 1), ct := Pv (i + 1), bk := D.nx } σ2 H2) (hd : ∀ σ H, Pv xs.length σ H → D.nx σ H) :
    ∃ W : Nat → Nat → L2.St → Hp → Prop, (∃ m, W 0 m σ H) ∧ ∀ i m σ H, W i m σ H →
      ((Ite K a).stop i H ∧ D.nx σ H) ∨ ((Ite K a).go i H ∧ ∃ N : L2.St → Hp → Prop, (∀ σ' H', N σ' H' → ∃ m', m' < m ∧ W (i + 1) m' σ' H') ∧ ∀ v H', (Ite K a).yld i H v H' → g v σ H' fun σ2 H2 => tb { D with nx := N, ct := N, bk := D.nx } σ2 H2) := by
  refine ⟨fun i m σ H => m = xs.length - i ∧ i ≤ xs.length ∧ Pv i σ H, ⟨xs.length, rfl, Nat.zero_le _, h0⟩, ?_⟩
  rintro i m σ H ⟨rfl, hi, p⟩
  have qx := hl i σ H hi p
  by_cases hlt : i < xs.length
  · have hx : xs[i]? = some xs[i] := List.getElem?_eq_getElem hlt
    refine .inr ⟨⟨xs, _, qx, hx⟩, Pv (i + 1), fun σ' H' p' => ⟨xs.length - (i + 1), by omega, rfl, hlt, p'⟩, fun v H' y => ?_⟩
    obtain ⟨T, x', rfl, hT, rfl, f1⟩ := y
    exact hs i x' T σ H (f1 xs qx) p hT
  · have e : i = xs.length := by omega
    subst e
    exact .inl ⟨⟨xs, qx, Nat.le_refl _⟩, hd σ H p⟩
/-- over a list or a tuple that stays as it is -/
theorem z_forS (hS : Sq K (wo B H) a xs) (htl : ∀ R : VK, R (.ref a) H → tl σ H R) (Pv : Nat → L2.St → Hp → Prop) (h0 : Pv 0 σ H) (hl : ∀ i σ' H', Pv i σ' H' → Ex B H H')
    (hs : ∀ (i : Nat) (x : V) (σ' : L2.St) (H' : Hp), xs[i]? = some x → Pv i σ' H' → g x σ' H' fun σ2 H2 => tb { D with nx := Pv (i + 1), ct := Pv (i + 1), bk := D.nx } σ2 H2) (hd : ∀ σ' H', Pv xs.length σ' H' → D.nx σ' H') :
    tFor (fun σ H R => iList K tl σ H R ∨ iTup K tl σ H R) g tb D σ H := by
  rcases hS with hS | hS
  · exact .inl (htl _ ⟨a, rfl, ⟨xs, le_l (wo_le B H) hS⟩, for_list Pv h0 (fun i σ' H' _ p => le_l (wo_le B H') (le_l (hl i σ' H' p).le hS)) hs hd⟩)
  · exact .inr (htl _ ⟨a, rfl, ⟨xs, le_t (wo_le B H) hS⟩, for_tup Pv h0 (fun i σ' H' _ p => le_t (wo_le B H') (le_t (hl i σ' H' p).le hS)) hs hd⟩)
end

/-! ### comprehensions: each item's value by R -/
theorem le_wo_cons {B C : List Addr} {D : Addr} {H H' : Hp} (hC : ∀ a, a ∈ C → a ∈ B) (hD : H D = none) (e : Ex C H H') : Le (wo B H) (wo (D :: B) H') := fun a o h => by
  obtain ⟨n, q⟩ := wo_some h
  refine wo_of (fun z => ?_) (e.1 a o (fun z => n (hC a z)) q)
  rcases List.mem_cons.mp z with z | z
  · rw [z, hD] at q; cases q
  · exact n z
section
variable {K : PySem.W.Frag} {g : TG} {te : TE} {vs : List Nat} {σ : L2.St} {H : Hp} {B C : List Addr}
/-- what a comprehension's loop keeps -/
def LcP (B C : List Addr) (H : Hp) (R : Nat → V → Hp → Prop) (J : Nat → Hp → Prop) (D : Addr) (i : Nat) (H' : Hp) : Prop :=
  Ex C H H' ∧ J i H' ∧ ∃ ys, H' D = some (.lst ys) ∧ ys.length = i ∧ ∀ j y, ys[j]? = some y → R j y (wo (D :: B) H')
/-- one turn's value goes onto the list -/
def LcT (B C : List Addr) (H : Hp) (R : Nat → V → Hp → Prop) (J : Nat → Hp → Prop) (g : TG) (te : TE) (vs : List Nat) (σ : L2.St) (i : Nat) (x : V) : Prop :=
  ∀ D H', H D = none → D ∉ B → Ex C H H' → J i H' → (H' D ≠ none) → ∀ N : VK, (∀ y H3, Ex C H' H3 → R i y (wo (D :: B) H3) → J (i + 1) H3 → N y H3) → g x (wipe σ vs) H' fun σ2 H2 => wipe σ2 vs = wipe σ vs ∧ te σ2 H2 N
structure LcOk (B C : List Addr) (H : Hp) (R : Nat → V → Hp → Prop) (J : Nat → Hp → Prop) (n : Nat) : Prop where
  hB : ∀ b, b ∈ B → H b ≠ none
  hC : ∀ a, a ∈ C → a ∈ B
  hR : ∀ i v G G', Le G G' → R i v G → R i v G'
  hJ : ∀ D i H' H'', H D = none → D ∉ B → Ex [D] H' H'' → J i H' → J i H''
  j0 : J 0 H
  hn : n < 100000
theorem lcOk0 {R : Nat → V → Prop} {n : Nat} (h : n < 100000) : LcOk [] [] H (fun i v _ => R i v) (fun _ _ => True) n := ⟨fun b hb => by simp at hb, fun _ h => h, fun _ _ _ _ _ h => h, fun _ _ _ _ _ _ _ _ => trivial, trivial, h⟩
theorem LcOk.nb {R : Nat → V → Hp → Prop} {J : Nat → Hp → Prop} {n : Nat} (O : LcOk B C H R J n) {D : Addr} (hD : H D = none) : D ∉ B := fun h => O.hB D h hD
theorem lcP_start {R : Nat → V → Hp → Prop} {J : Nat → Hp → Prop} {n : Nat} (O : LcOk B C H R J n) {D : Addr} (hD : H D = none) {H1 : Hp} (x1 : Ex [] H H1) : LcP B C H R J D 0 (upd H1 D (.lst [])) :=
  ⟨(Ex.nil x1).mutNew' hD, O.hJ D 0 H _ hD (O.nb hD) ((Ex.nil x1).trans (Ex.mut (List.mem_singleton.mpr rfl))) O.j0, [], upd_same, rfl, fun j y h => by simp at h⟩
theorem le_upd {B C : List Addr} (hC : ∀ a, a ∈ C → a ∈ B) {D : Addr} {H' H3 : Hp} {o : HO} (e : Ex C H' H3) : Le (wo (D :: B) H') (wo (D :: B) (upd H3 D o)) := fun a u h => by
  obtain ⟨n, q⟩ := wo_some h
  have na : a ≠ D := fun z => n (by rw [z]; exact List.mem_cons_self ..)
  have nb : a ∉ B := fun z => n (List.mem_cons_of_mem _ z)
  refine wo_of n ?_
  rw [upd_ne na]
  exact e.1 a u (fun z => nb (hC a z)) q
theorem lcP_turn {R : Nat → V → Hp → Prop} {J : Nat → Hp → Prop} {n : Nat} (O : LcOk B C H R J n) {D : Addr} (hD : H D = none) {i : Nat} (hi : i < n) {H' H3 : Hp} {y : V} (p : LcP B C H R J D i H') (e : Ex C H' H3) (r : R i y (wo (D :: B) H3)) (j : J (i + 1) H3) :
    ∃ acc, H3 D = some (.lst acc) ∧ acc.length < sizeLine ∧ LcP B C H R J D (i + 1) (upd H3 D (.lst (acc ++ [y]))) := by
  obtain ⟨x1, _, ys, d1, l1, r1⟩ := p
  have nb := O.nb hD
  refine ⟨ys, e.1 D _ (fun z => nb (O.hC D z)) d1, sz_lt (by have := O.hn; omega), (x1.trans e).mutNew' hD, O.hJ D _ _ _ hD nb (Ex.mut (List.mem_singleton.mpr rfl)) j, ys ++ [y], upd_same, by simp [l1], fun k z hk => ?_⟩
  by_cases c : k < ys.length
  · rw [List.getElem?_append_left c] at hk
    exact O.hR k z _ _ (le_upd O.hC e) (r1 k z hk)
  · have ek : k = i := by
      have : k < (ys ++ [y]).length := by
        obtain ⟨h, _⟩ := List.getElem?_eq_some_iff.mp hk
        exact h
      rw [List.length_append, List.length_singleton] at this
      omega
    subst ek
    rw [List.getElem?_append_right (by omega), l1, Nat.sub_self] at hk
    have ez : y = z := Option.some.inj hk
    subst ez
    exact O.hR k y _ _ (le_upd O.hC (Ex.refl _ _)) r
theorem lcP_end {R : Nat → V → Hp → Prop} {J : Nat → Hp → Prop} {n : Nat} (O : LcOk B C H R J n) {D : Addr} {H' : Hp} (p : LcP B C H R J D n H') :
    ∃ ys, H' D = some (.lst ys) ∧ ys.length = n ∧ (∀ j y, ys[j]? = some y → R j y (wo B H')) ∧ Ex C H H' ∧ J n H' := by
  obtain ⟨x1, j1, ys, d1, l1, r1⟩ := p
  exact ⟨ys, d1, l1, fun j y h => O.hR j y _ _ (wo_le2 fun a h => List.mem_cons_of_mem _ h) (r1 j y h), x1, j1⟩
theorem lcP_there {R : Nat → V → Hp → Prop} {J : Nat → Hp → Prop} {D : Addr} {i : Nat} {H' : Hp} (p : LcP B C H R J D i H') : H' D ≠ none := by
  obtain ⟨_, _, ys, d1, _⟩ := p
  rw [d1]
  exact fun z => by cases z
/-- what a comprehension over n items asks, the source standing -/
structure LcAll (B C : List Addr) (H : Hp) (R : Nat → V → Hp → Prop) (J : Nat → Hp → Prop) (g : TG) (te : TE) (vs : List Nat) (σ : L2.St) (n : Nat) (item : Nat → V → Prop) (Q : VK) : Prop where
  ok : LcOk B C H R J n
  turn : ∀ i x, i < n → item i x → LcT B C H R J g te vs σ i x
  fin : ∀ D ys H', H D = none → H' D = some (.lst ys) → ys.length = n → (∀ j y, ys[j]? = some y → R j y (wo B H')) → Ex C H H' → J n H' → Q (.ref D) H'
section
variable {R : Nat → V → Hp → Prop} {J : Nat → Hp → Prop} {n : Nat} {item : Nat → V → Prop} {Q : VK}
theorem LcAll.end_ (CC : LcAll B C H R J g te vs σ n item Q) {D : Addr} (hD : H D = none) {H' : Hp} (p : LcP B C H R J D n H') : Q (.ref D) H' := by
  obtain ⟨ys, d1, l1, r1, x1, j1⟩ := lcP_end CC.ok p
  exact CC.fin D ys H' hD d1 l1 r1 x1 j1
theorem LcAll.step (CC : LcAll B C H R J g te vs σ n item Q) {D : Addr} (hD : H D = none) {i : Nat} {x : V} {H' : Hp} (hi : i < n) (hx : item i x) (p : LcP B C H R J D i H') : g x (wipe σ vs) H' fun σ2 H2 => wipe σ2 vs = wipe σ vs ∧ tYes σ2 H2 fun b H3 =>
      if b = true then te σ2 H3 fun y H4 => ∃ acc, H4 D = some (.lst acc) ∧ acc.length < sizeLine ∧ LcP B C H R J D (i + 1) (upd H4 D (.lst (acc ++ [y]))) else LcP B C H R J D (i + 1) H3 := by
  have h1 := CC.turn i x hi hx D H' hD (CC.ok.nb hD) p.1 p.2.1 (lcP_there p) _ (fun y H3 e r j => lcP_turn CC.ok hD hi p e r j)
  simpa only [tYes, if_true, eq_self] using h1
end
theorem z_lcS {t : Bool} {xs : List V} {tl : TE} {Q : VK} (htl : ∀ R : VK, (∀ a H1, Ex [] H H1 → SqX t K (wo B H1) a xs → R (.ref a) H1) → tl σ H R) (R : Nat → V → Hp → Prop) (J : Nat → Hp → Prop)
    (k : ∀ H1, Ex [] H H1 → LcAll B C H1 R J g te vs σ xs.length (fun i x => xs[i]? = some x) Q) : tLc (fun σ H R => iList K tl σ H R ∨ iTup K tl σ H R) g tYes te vs σ H Q := by
  have lt : ∀ {i : Nat} {x : V}, xs[i]? = some x → i < xs.length := fun h => by
    obtain ⟨h, _⟩ := List.getElem?_eq_some_iff.mp h
    exact h
  cases t with
  | false => exact .inl (htl _ fun a H1 x1 hS => ⟨a, rfl, ⟨xs, le_l (wo_le B H1) hS⟩, fun D hD => lc_list (LcP B C H1 R J D) (lcP_start (k H1 x1).ok hD (Ex.refl _ _)) (fun i H' _ p => le_l (wo_le B H') (le_l (p.1.sub (k H1 x1).ok.hC).le hS)) (fun i x H' hx p => (k H1 x1).step hD (lt hx) hx p) (fun H' p => (k H1 x1).end_ hD p)⟩)
  | true => exact .inr (htl _ fun a H1 x1 hS => ⟨a, rfl, ⟨xs, le_t (wo_le B H1) hS⟩, fun D hD => lc_tup (LcP B C H1 R J D) (lcP_start (k H1 x1).ok hD (Ex.refl _ _)) (fun i H' _ p => le_t (wo_le B H') (le_t (p.1.sub (k H1 x1).ok.hC).le hS)) (fun i x H' hx p => (k H1 x1).step hD (lt hx) hx p) (fun H' p => (k H1 x1).end_ hD p)⟩)
theorem z_lcL {xs : List V} {tl : TE} {Q : VK} (htl : ∀ R : VK, (∀ a H1, Ex [] H H1 → SqL K (wo B H1) a xs → R (.ref a) H1) → tl σ H R) (R : Nat → V → Hp → Prop) (J : Nat → Hp → Prop)
    (k : ∀ H1, Ex [] H H1 → LcAll B C H1 R J g te vs σ xs.length (fun i x => xs[i]? = some x) Q) : tLc (iList K tl) g tYes te vs σ H Q := by
  have lt : ∀ {i : Nat} {x : V}, xs[i]? = some x → i < xs.length := fun h => by
    obtain ⟨h, _⟩ := List.getElem?_eq_some_iff.mp h
    exact h
  exact (htl _ fun a H1 x1 hS => ⟨a, rfl, ⟨xs, le_l (wo_le B H1) hS⟩, fun D hD => lc_list (LcP B C H1 R J D) (lcP_start (k H1 x1).ok hD (Ex.refl _ _)) (fun i H' _ p => le_l (wo_le B H') (le_l (p.1.sub (k H1 x1).ok.hC).le hS)) (fun i x H' hx p => (k H1 x1).step hD (lt hx) hx p) (fun H' p => (k H1 x1).end_ hD p)⟩)
theorem z_lcR {n : Nat} {lo : Int} {Q : VK} {wi : TI} (hwi : ∀ R : It → Hp → Prop, (∀ H1, Ex [] H H1 → R (Itr lo n) H1) → wi σ H R) (R : Nat → V → Hp → Prop) (J : Nat → Hp → Prop)
    (k : ∀ H1, Ex [] H H1 → LcAll B C H1 R J g te vs σ n (fun i x => x = .int (lo + i)) Q) : tLc wi g tYes te vs σ H Q :=
  hwi _ fun H1 x1 D hD => lc_range (LcP B C H1 R J D) (lcP_start (k H1 x1).ok hD (Ex.refl _ _)) (fun i H' hi p => (k H1 x1).step hD hi rfl p) (fun H' p => (k H1 x1).end_ hD p)
end

/-! ### data -/
/-- a tuple | a list -/
def sq (t : Bool) (ds : List PyData) : PyData := if t then .tuple ds else .list ds
section
variable {K : PySem.W.Frag} {G H : Hp} {v : V} {t : Bool} {ds : List PyData} {xs : List V} {B : List Addr}
theorem dp_sq (h : Dp K G v (sq t ds)) : ∃ a xs, v = .ref a ∧ SqX t K G a xs ∧ DpAll K G xs ds := by
  cases t with
  | true => cases (show Dp K G v (.tuple ds) from h) with | tup h1 h2 => exact ⟨_, _, rfl, h1, h2⟩
  | false => cases (show Dp K G v (.list ds) from h) with | lst h1 h2 => exact ⟨_, _, rfl, h1, h2⟩
theorem dp_tup (h : Dp K G v (.tuple ds)) : ∃ a xs, v = .ref a ∧ SqT K G a xs ∧ DpAll K G xs ds := by
  cases h with | tup h1 h2 => exact ⟨_, _, rfl, h1, h2⟩
theorem dp_int {i : Int} (h : Dp K G v (.int i)) : v = .int i := by cases h; rfl
theorem dp_bl {i : Bool} (h : Dp K G v (.bool i)) : v = .bl i := by cases h; rfl
theorem dpa_len : ∀ {xs : List V} {ds : List PyData}, DpAll K G xs ds → xs.length = ds.length
  | _, _, .nil => rfl
  | _, _, .cons _ h => by rw [List.length_cons, List.length_cons, dpa_len h]
theorem dpa_get : ∀ {xs : List V} {ds : List PyData} {i : Nat} {d : PyData}, DpAll K G xs ds → ds[i]? = some d → ∃ v, xs[i]? = some v ∧ Dp K G v d
  | _, _, _, _, .nil, e => by simp at e
  | _, _, 0, _, .cons r _, e => by simp at e; subst e; exact ⟨_, rfl, r⟩
  | _, _, i + 1, d, .cons _ t, e => by
    obtain ⟨u, h1, h2⟩ := dpa_get (i := i) (d := d) t (by simpa using e)
    exact ⟨u, by simpa using h1, h2⟩
theorem dpa_get' {i : Nat} {v : V} (h : DpAll K G xs ds) (e : xs[i]? = some v) : ∃ d, ds[i]? = some d ∧ Dp K G v d := by
  have hl := dpa_len h
  obtain ⟨hi, _⟩ := List.getElem?_eq_some_iff.mp e
  obtain ⟨u, h1, h2⟩ := dpa_get h (List.getElem?_eq_getElem (show i < ds.length by omega))
  rw [e] at h1
  cases h1
  exact ⟨_, List.getElem?_eq_getElem (show i < ds.length by omega), h2⟩
theorem dpa_of : ∀ {xs : List V} {ds : List PyData}, xs.length = ds.length → (∀ (i : Nat) (v : V), xs[i]? = some v → ∃ d, ds[i]? = some d ∧ Dp K G v d) → DpAll K G xs ds
  | [], [], _, _ => .nil
  | [], _ :: _, h, _ => by simp at h
  | _ :: _, [], h, _ => by simp at h
  | x :: xs, d :: ds, h, q => by
    refine .cons ?_ (dpa_of (by simpa using h) fun i v e => ?_)
    · obtain ⟨d', e1, e2⟩ := q 0 x rfl
      cases e1
      exact e2
    · obtain ⟨d', e1, e2⟩ := q (i + 1) v (by simpa using e)
      exact ⟨d', by simpa using e1, e2⟩
theorem dpa_ints : ∀ {ns : List Int} {xs : List V}, DpAll K G xs (ns.map PyData.int) → xs = ns.map V.int
  | [], _, h => by cases h; rfl
  | n :: ns, _, h => by
    cases h with
    | cons h1 h2 => rw [dp_int h1, dpa_ints h2]; rfl
theorem dpa_of_ints : ∀ (ns : List Int), DpAll K G (ns.map V.int) (ns.map PyData.int)
  | [] => .nil
  | n :: ns => .cons (.int n) (dpa_of_ints ns)
theorem z_ixD {i : Int} {d : PyData} {j : Nat} {Q : VK} (h : Dp K G v (sq t ds)) (le : Le G H) (ei : i = (j : Int)) (hd : ds[j]? = some d) (q : ∀ u, Dp K G u d → Q u H) : rIx K v (.int i) H Q := by
  obtain ⟨a, xs, rfl, hS, hA⟩ := dp_sq h
  obtain ⟨u, h1, h2⟩ := dpa_get hA hd
  refine z_ix (le_s le hS.sq) (v := u) ?_ (q u h2)
  rw [ei]
  exact atI_nat h1
theorem Le.refl (H : Hp) : Le H H := fun _ _ h => h
theorem Le.trans {H1 H2 H3 : Hp} (a : Le H1 H2) (b : Le H2 H3) : Le H1 H3 := fun x o h => b x o (a x o h)
theorem Ex.le0 {H H' : Hp} (e : Ex [] H H') : Le H H' := fun a o h => e.1 a o (by simp) h
/-- a comprehension's ints -/
theorem ys_ints {α : Type} {l : List α} {f : α → Int} {ys : List V} (hl : ys.length = l.length) (h : ∀ (j : Nat) (y : V), ys[j]? = some y → ∃ d, l[j]? = some d ∧ y = V.int (f d)) : ys = (l.map f).map V.int := by
  apply List.ext_getElem?
  intro j
  rw [List.getElem?_map, List.getElem?_map]
  by_cases c : j < ys.length
  · obtain ⟨d, e1, e2⟩ := h j ys[j] (List.getElem?_eq_getElem c)
    rw [List.getElem?_eq_getElem c, e1, e2]
    rfl
  · rw [List.getElem?_eq_none (by omega), List.getElem?_eq_none (by omega)]
    rfl
end
theorem fnOk_weak {P : Program} {w : World} {K : PySem.W.Frag} {mg : Str → Option Value} {base : Heap} {CX : CXT} {k : Nat} {f : Addr} {fd : FuncData} {ps : List Str} {sp sp' : Sp} (F : FnOk P w K mg base CX k f fd ps sp) (h : ∀ vs H Q E, sp' vs H Q E → sp vs H Q E) : FnOk P w K mg base CX k f fd ps sp' :=
  ⟨fun vs H Q E q => F.len vs H Q E (h _ _ _ _ q), fun A outer s H args us vs Q E r e b v q => F.run A outer s H args us vs Q E r e b v (h _ _ _ _ q)⟩

/-! ### hills -/
structure Hill where
  year : List (Int × Bool)
  needs : List Int
  most : Int
namespace Hill
def drops (h : Hill) : Int := (h.year.map (·.1)).sum
abbrev dat (t : Bool) (h : Hill) : PyData := sq t [sq t (h.year.map fun d => sq t [.int d.1, .bool d.2]), sq t (h.needs.map PyData.int), .int h.most]
end Hill

theorem cut_head (xs : List V) (n : Nat) : cutV xs none (some (n : Int)) = xs.take n := by
  unfold cutV
  rw [HT.sIx_nat, HT.sIx_none, List.drop_zero, Nat.sub_zero]
  by_cases h : n ≤ xs.length
  · rw [Nat.min_eq_left h]
  · rw [Nat.min_eq_right (by omega), List.take_of_length_le (Nat.le_refl _), List.take_of_length_le (by omega)]
theorem cut_mid (xs : List V) (n m : Nat) (h : xs.length ≤ m) : cutV xs (some (n : Int)) (some (m : Int)) = xs.drop n := by
  unfold cutV
  rw [HT.sIx_nat, HT.sIx_nat, Nat.min_eq_right h]
  by_cases h2 : n ≤ xs.length
  · rw [Nat.min_eq_left h2, List.take_of_length_le]
    rw [List.length_drop]
    omega
  · rw [Nat.min_eq_right (by omega), Nat.sub_self, List.take_zero, List.drop_eq_nil_of_le (by omega)]
theorem ixN_nat {n j : Nat} (hj : j < n) : ixN n (j : Int) = some j := by
  unfold ixN
  rw [if_pos (by omega), if_pos (by omega)]
  simp
theorem set_ints (ms : List Int) (j : Nat) (z : Int) : (ms.map V.int).set j (.int z) = (ms.set j z).map V.int := by
  rw [List.map_set]
theorem get_ints {ms : List Int} {j : Nat} (h : j < ms.length) : (ms.map V.int)[j]? = some (.int ms[j]) := by
  rw [List.getElem?_map, List.getElem?_eq_getElem h]
  rfl

/-! ### the rules with the written part named (a comprehension's block has the same) -/
section
variable {X : Cx}
theorem ixK (K : PySem.W.Frag) (h : X.K = K := by rfl) : IxR X (rIx K) := by subst h; exact ix_any
theorem slK (K : PySem.W.Frag) (h : X.K = K := by rfl) : SlR X (rSlB K) := by subst h; exact sl_seq
theorem lenK (K : PySem.W.Frag) (h : X.K = K := by rfl) : CallR X (.builtin "len") (fun xs H Q => ∃ p ys, xs = [.ref p] ∧ Sq K H p ys ∧ Q (.int ys.length) H) := by subst h; exact call_len_seq
theorem sumK (K : PySem.W.Frag) (hc : X.calm = true := by rfl) (h : X.K = K := by rfl) : CallR X (.builtin "sum") (rSumA K) := by subst h; exact cr_sumA hc
theorem allK (K : PySem.W.Frag) (hc : X.calm = true := by rfl) (h : X.K = K := by rfl) : CallR X (.builtin "all") (rAll K) := by subst h; exact cr_all hc
theorem anyK (K : PySem.W.Frag) (hc : X.calm = true := by rfl) (h : X.K = K := by rfl) : CallR X (.builtin "any") (rAny K) := by subst h; exact cr_any hc
def rListA (K : PySem.W.Frag) : List V → Hp → VK → Prop := fun xs H Q => ∃ p ys, xs = [.ref p] ∧ Sq K H p ys ∧ ∀ l, H l = none → Q (.ref l) (upd H l (.lst ys))
theorem listK (K : PySem.W.Frag) (h : X.K = K := by rfl) : CallR X (.type "list") (rListA K) := by subst h; exact call_list_of
def rTupA (K : PySem.W.Frag) : List V → Hp → VK → Prop := fun xs H Q => ∃ p ys, xs = [.ref p] ∧ ((SqL K H p ys ∧ ∀ l, H l = none → Q (.ref l) (upd H l (.tup ys))) ∨ (SqT K H p ys ∧ Q (.ref p) H))
theorem tupK (K : PySem.W.Frag) (h : X.K = K := by rfl) : CallR X (.type "tuple") (rTupA K) := by subst h; exact call_tuple_of
theorem isiK (K : PySem.W.Frag) (h : X.K = K := by rfl) : CallR X (.builtin "isinstance") (rIsi K) := by subst h; exact call_isi
theorem isiTK (K : PySem.W.Frag) (h : X.K = K := by rfl) : CallR X (.builtin "isinstance") (rIsiT K) := by subst h; exact call_isiT
theorem inK (K : PySem.W.Frag) (h : X.K = K := by rfl) : OpR X (compareOp .In) (rIn K false) := by subst h; exact op_in_seq
theorem ninK (K : PySem.W.Frag) (h : X.K = K := by rfl) : OpR X (compareOp .NotIn) (rIn K true) := by subst h; exact op_notIn_seq
theorem eqDK (K : PySem.W.Frag) (hu : X.A.units + 64 < cLine) (h : X.K = K := by rfl) : OpR X (compareOp .Eq) (rEqD K) := by subst h; exact op_eqD hu
theorem neDK (K : PySem.W.Frag) (hu : X.A.units + 64 < cLine) (h : X.K = K := by rfl) : OpR X (compareOp .NotEq) (rNeD K) := by subst h; exact op_neD hu
theorem catTK (K : PySem.W.Frag) (h : X.K = K := by rfl) : OpR X (binaryOp .Add) (rCatA K) := by subst h; exact op_catA
theorem pg_tupK (K : PySem.W.Frag) (n : Nat) {es : List Expr} {k : Nat} {t : TGs} {pos : Pos} (hc : X.calm = true) (h : PGs X es t) (hK : X.K = K := by rfl) (hn : (assignEach es X.env).length = n := by rfl) (hst : (assignEach es X.env).findIdx? (·.1) = none := by rfl) : PG X (.Tuple es k pos) (gTup K n t) := by
  subst hK
  exact pg_tup hc h hn hst
theorem pi_listK (K : PySem.W.Frag) {tg l : Expr} {tl : TE} (hl : PE X l tl) (h : X.K = K := by rfl) : PI X tg l (iList K tl) := by subst h; exact pi_list hl
theorem pi_tupK (K : PySem.W.Frag) {tg l : Expr} {tl : TE} (hl : PE X l tl) (h : X.K = K := by rfl) : PI X tg l (iTup K tl) := by subst h; exact pi_tup hl
theorem pi_seqK (K : PySem.W.Frag) {tg l : Expr} {tl : TE} (hl : PE X l tl) (h : X.K = K := by rfl) : PI X tg l (fun σ H R => iList K tl σ H R ∨ iTup K tl σ H R) := by subst h; exact pi_seq hl
end

section
variable {K : PySem.W.Frag} {H : Hp} {a : Addr} {xs : List V}
/-- a slice of a list or a tuple -/
theorem z_sl {t : Bool} {lo hi : Option Int} {Q : VK} (h : SqX t K H a xs) (q : ∀ p H', Ex [] H H' → SqX t K H' p (cutV xs lo hi) → Q (.ref p) H') : rSlB K (.ref a) lo hi H Q := by
  cases t with
  | false => exact .inl ⟨a, xs, rfl, h, fun p hp => q p _ (Ex.new hp) (SqL.of upd_same)⟩
  | true =>
    refine .inr ⟨a, xs, rfl, h, fun ⟨e1, e2⟩ => ?_, fun _ p hp => q p _ (Ex.new hp) (SqT.of upd_same)⟩
    have e : cutV xs lo hi = xs := by
      unfold cutV
      rw [e1, e2, List.drop_zero, Nat.sub_zero, List.take_length]
    exact q a H (Ex.refl _ _) (by rw [e]; exact h)
end

/-! ### what a datum's type is -/
def tyN : PyData → String
  | .none => "NoneType" | .bool _ => "bool" | .int _ => "int" | .str _ => "str" | .list _ => "list" | .tuple _ => "tuple" | .dict _ => "dict"
def isIn (a n : String) : Bool := a == n || (a == "bool" && n == "int")
section
variable {K : PySem.W.Frag} {H : Hp} {v : V} {d : PyData} {a : Addr} {xs : List V}
theorem tyx_l (h : SqL K H a xs) : TyX K H (.ref a) (.type "list") := by
  rcases h with (h | ⟨o, h⟩) | ⟨o, its, n, h1, h2, _⟩
  · exact .base (.lst h)
  · exact .base (.frz h)
  · exact .kList h1 h2
theorem tyx_t (h : SqT K H a xs) : TyX K H (.ref a) (.type "tuple") := by
  rcases h with (h | ⟨o, h⟩) | ⟨o, its, n, h1, h2, _⟩
  · exact .base (.tup h)
  · exact .fTuple h
  · exact .kTuple h1 h2
theorem tyx_dp (h : Dp K H v d) : TyX K H v (.type (tyN d)) := by
  cases h with
  | non => exact .base .non
  | bl b => exact .base (.bl b)
  | int i => exact .base (.int i)
  | str x => exact .base (.str x)
  | lst h1 _ => exact tyx_l h1
  | tup h1 _ => exact tyx_t h1
theorem kitB_all : ∀ a ∈ (["NoneType", "bool", "int", "str", "list", "tuple"] : List String), ∀ n ∈ (["list", "tuple", "bool", "int", "str"] : List String), kitB a n = some (isIn a n) := by decide +kernel
theorem tyN_mem (h : Dp K H v d) : tyN d ∈ (["NoneType", "bool", "int", "str", "list", "tuple"] : List String) := by
  cases h <;> simp [tyN]
theorem kitB_of (h : Dp K H v d) {n : String} (hn : n = "list" ∨ n = "tuple" ∨ n = "bool" ∨ n = "int" ∨ n = "str") : kitB (tyN d) n = some (isIn (tyN d) n) :=
  kitB_all _ (tyN_mem h) _ (by rcases hn with rfl | rfl | rfl | rfl | rfl <;> simp)
theorem z_isi {n : String} {Q : VK} (h : Dp K H v d) (hn : n = "list" ∨ n = "tuple" ∨ n = "bool" ∨ n = "int" ∨ n = "str") (q : Q (.bl (isIn (tyN d) n)) H) : rIsi K [v, .ty n] H Q :=
  ⟨v, .ty n, .type (tyN d), .type n, _, rfl, .ty n, tyx_dp h, kit_ty (kitB_of h hn), q⟩
theorem z_isiLT {p : Addr} {Q : VK} (h : Dp K H v d) (hp : H p = some (.tup [.ty "list", .ty "tuple"])) (q : Q (.bl (isIn (tyN d) "list" || isIn (tyN d) "tuple")) H) : rIsiT K [v, .ref p] H Q := by
  refine ⟨v, p, _, .type (tyN d), [.type "list", .type "tuple"], _, rfl, hp, .cons (.ty _) (.cons (.ty _) .nil), tyx_dp h, ?_, q⟩
  have e1 := kitB_of h (n := "list") (.inl rfl)
  have e2 := kitB_of h (n := "tuple") (.inr (.inl rfl))
  exact kitAny_cons (kit_ty e1) (fun e => by rw [e, Bool.false_or]; exact kitAny_cons (kit_ty e2) (fun e => by rw [e]; rfl) (fun e => e)) (fun e => by rw [e]; rfl)
end
mutual
/-- lists for tuples, at any depth -/
def listed : PyData → PyData
  | .list ds => .list (listedAll ds)
  | .tuple ds => .list (listedAll ds)
  | d => d
def listedAll : List PyData → List PyData
  | [] => []
  | d :: ds => listed d :: listedAll ds
end
theorem listedAll_map : ∀ ds : List PyData, listedAll ds = ds.map listed
  | [] => rfl
  | d :: ds => by show listed d :: listedAll ds = _; rw [listedAll_map ds]; rfl
/-- no deeper than n, no longer than 1000 -/
def dpt : Nat → PyData → Prop
  | 0, .list _ => False
  | 0, .tuple _ => False
  | n + 1, .list ds => ds.length ≤ 1000 ∧ ∀ d ∈ ds, dpt n d
  | n + 1, .tuple ds => ds.length ≤ 1000 ∧ ∀ d ∈ ds, dpt n d
  | _, .dict _ => False
  | _, _ => True
section
variable {K : PySem.W.Frag} {g : TG} {te : TE} {vs : List Nat} {σ : L2.St} {H : Hp} {B C : List Addr}
/-- a comprehension over zip of two lists, of two tuples -/
theorem z_lcZ {t : Bool} {xs ys : List V} {ta : TA} {Q : VK} (hl : xs.length = ys.length) (hta : ∀ R : List V → Hp → Prop, (∀ a b H1, Ex [] H H1 → SqX t K (wo B H1) a xs → SqX t K (wo B H1) b ys → R [.ref a, .ref b] H1) → ta σ H R) (R : Nat → V → Hp → Prop) (J : Nat → Hp → Prop)
    (ok : ∀ H1, Ex [] H H1 → LcOk B C H1 R J xs.length)
    (turn : ∀ H1, Ex [] H H1 → ∀ (i : Nat) x y, xs[i]? = some x → ys[i]? = some y → ∀ D T H', H1 D = none → D ∉ B → Ex C H1 H' → J i H' → H' D ≠ none → T ≠ D → H' T = some (.tup [x, y]) →
      ∀ N : VK, (∀ z H3, Ex C H' H3 → R i z (wo (D :: B) H3) → J (i + 1) H3 → N z H3) → g (.ref T) (wipe σ vs) H' fun σ2 H2 => wipe σ2 vs = wipe σ vs ∧ te σ2 H2 N)
    (fin : ∀ H1, Ex [] H H1 → ∀ D zs H', H1 D = none → H' D = some (.lst zs) → zs.length = xs.length → (∀ j y, zs[j]? = some y → R j y (wo B H')) → Ex C H1 H' → J xs.length H' → Q (.ref D) H') :
    tLc (RZ.iZipA K ta) g tYes te vs σ H Q := by
  refine hta _ fun a b H1 x1 hx hy => ?_
  have O := ok H1 x1
  -- the loop, whatever the two are
  have core : ∀ (J0 : It), (∀ i H', J0.go i H' ∨ True) → (∀ i H', i < xs.length → Ex C H1 H' → J0.go i H') → (∀ i H', i = xs.length → Ex C H1 H' → J0.stop i H') →
      (∀ i H' v H'', Ex C H1 H' → J0.yld i H' v H'' → ∃ T x y, v = .ref T ∧ H' T = none ∧ H'' = upd H' T (.tup [x, y]) ∧ xs[i]? = some x ∧ ys[i]? = some y) →
      ∀ D, H1 D = none → ∃ W : Nat → Nat → Hp → Prop, (∃ m, W 0 m (upd H1 D (.lst []))) ∧ ∀ i m H, W i m H →
      ((J0.stop i H ∧ Q (.ref D) H) ∨ (J0.go i H ∧ ∃ Nx : Hp → Prop, (∀ H', Nx H' → ∃ m', m' < m ∧ W (i + 1) m' H') ∧ ∀ x H', J0.yld i H x H' → g x (wipe σ vs) H' fun σ2 H2 => wipe σ2 vs = wipe σ vs ∧ tYes σ2 H2 fun b H3 =>
        if b = true then te σ2 H3 fun y H4 => ∃ acc, H4 D = some (.lst acc) ∧ acc.length < sizeLine ∧ Nx (upd H4 D (.lst (acc ++ [y]))) else Nx H3)) := fun J0 _ hgo hstop hyld D hD => by
    refine ⟨fun i m H' => m = xs.length - i ∧ i ≤ xs.length ∧ LcP B C H1 R J D i H', ⟨xs.length, rfl, Nat.zero_le _, lcP_start O hD (Ex.refl _ _)⟩, ?_⟩
    rintro i m H' ⟨rfl, hi, p⟩
    by_cases hlt : i < xs.length
    · refine .inr ⟨hgo i H' hlt p.1, fun H'' => LcP B C H1 R J D (i + 1) H'', fun H'' p' => ⟨xs.length - (i + 1), by omega, rfl, hlt, p'⟩, fun v H'' yl => ?_⟩
      obtain ⟨T, x, y, rfl, hT, rfl, ex, ey⟩ := hyld i H' v H'' p.1 yl
      have hTD : T ≠ D := fun z => lcP_there p (z ▸ hT)
      have xT : Ex [] H' (upd H' T (.tup [x, y])) := Ex.new hT
      have pT : LcP B C H1 R J D i (upd H' T (.tup [x, y])) := by
        obtain ⟨e1, j1, zs, d1, l1, r1⟩ := p
        exact ⟨e1.trans (Ex.nil xT), O.hJ D i _ _ hD (O.nb hD) (Ex.nil xT) j1, zs, xT.1 D _ (by simp) d1, l1, fun j z hz => O.hR j z _ _ (Ex.nil xT).le (r1 j z hz)⟩
      have h1 := turn H1 x1 i x y ex ey D T _ hD (O.nb hD) pT.1 pT.2.1 (lcP_there pT) hTD upd_same _ (fun z H3 e r j => lcP_turn O hD hlt pT e r j)
      simpa only [tYes, if_true, eq_self] using h1
    · have e : i = xs.length := by omega
      subst e
      obtain ⟨zs, d1, l1, r1, x2, j1⟩ := lcP_end O p
      exact .inl ⟨hstop _ H' rfl p.1, fin H1 x1 D zs H' hD d1 l1 r1 x2 j1⟩
  cases t with
  | false =>
    have hx' : ∀ H', Ex C H1 H' → SqL K H' a xs := fun H' e => le_l (wo_le B H') (le_l (e.sub O.hC).le hx)
    have hy' : ∀ H', Ex C H1 H' → SqL K H' b ys := fun H' e => le_l (wo_le B H') (le_l (e.sub O.hC).le hy)
    refine ⟨a, b, xs, ys, rfl, .inl ⟨hx' H1 (Ex.refl _ _), hy' H1 (Ex.refl _ _), core (Itz K a b) (fun _ _ => .inr trivial) (fun i H' hi e => ?_) (fun i H' hi e => ?_) (fun i H' v H'' e yl => ?_)⟩⟩
    · exact ⟨xs, ys, _, _, hx' H' e, hy' H' e, List.getElem?_eq_getElem hi, List.getElem?_eq_getElem (show i < ys.length by omega)⟩
    · exact ⟨xs, ys, hx' H' e, hy' H' e, .inl (by omega)⟩
    · obtain ⟨T, x, y, rfl, hT, rfl, f1, f2⟩ := yl
      exact ⟨T, x, y, rfl, hT, rfl, f1 xs (hx' H' e), f2 ys (hy' H' e)⟩
  | true =>
    have hx' : ∀ H', Ex C H1 H' → SqT K H' a xs := fun H' e => le_t (wo_le B H') (le_t (e.sub O.hC).le hx)
    have hy' : ∀ H', Ex C H1 H' → SqT K H' b ys := fun H' e => le_t (wo_le B H') (le_t (e.sub O.hC).le hy)
    refine ⟨a, b, xs, ys, rfl, .inr ⟨hx' H1 (Ex.refl _ _), hy' H1 (Ex.refl _ _), core (RZ.ItzT K a b) (fun _ _ => .inr trivial) (fun i H' hi e => ?_) (fun i H' hi e => ?_) (fun i H' v H'' e yl => ?_)⟩⟩
    · exact ⟨xs, ys, _, _, hx' H' e, hy' H' e, List.getElem?_eq_getElem hi, List.getElem?_eq_getElem (show i < ys.length by omega)⟩
    · exact ⟨xs, ys, hx' H' e, hy' H' e, .inl (by omega)⟩
    · obtain ⟨T, x, y, rfl, hT, rfl, f1, f2⟩ := yl
      exact ⟨T, x, y, rfl, hT, rfl, f1 xs (hx' H' e), f2 ys (hy' H' e)⟩
end

/-! ### ranges of any ends -/
/-- the iterator that a range of great ends gives goes through its numbers as a small one's does -/
theorem turn_long {P : Program} {w : World} {K : PySem.W.Frag} {tg : Expr} (at0 : Addr) (lo : Int) (n : Nat) :
    Turn P w K tg (Itr lo n) [at0] at0 (fun k hp => IsLongIter hp at0 (lo + (k : Nat) * 1) ((n : Int) - (k : Nat)) 1) where
  mem := by simp
  obj := fun k hp there b hb => ⟨_, (List.mem_singleton.mp hb) ▸ there, fun v no => by injection (show Data.fields _ = Data.cell v from no)⟩
  keep := fun k hp hp2 there same => same at0 (List.mem_singleton.mpr rfl) _ there
  item := by
    intro X eP ew eK calm k pins sh σ H E J free there more
    subst eP; subst ew; subst eK
    obtain ⟨q0, q1, q2, q3, q4, q5⟩ := free at0 (List.mem_singleton.mpr rfl)
    refine (Walks.longrange (prog := X.prog) (w := X.w) (J.ok.hd calm) at0 lo 1 n).item k sh _ _ more there fun v hp2 tk2 hv there2 rest => ?_
    obtain ⟨tok, rfl⟩ := hv
    have J2 : Inv X pins σ H { sh with heap := hp2, toks := tk2 } := J.turned (fun b o nb e => rest b o (by simpa using nb) e) q0 q1 q3 q4 q5
    exact ⟨_, rfl, go_of (s := { sh with heap := hp2, toks := tk2 }) (n := "longrange_iterator") there2 rfl rfl (by decide)
      ⟨.int (lo + k), H, J2, ⟨tok, by rw [Int.mul_one]⟩, ⟨rfl, rfl⟩, there2, fun b hb => (free b hb).1⟩⟩
  done := by
    intro X eP ew eK calm k pins sh σ H E J free there over
    subst eP; subst ew; subst eK
    obtain ⟨q0, q1, q2, q3, q4, q5⟩ := free at0 (List.mem_singleton.mpr rfl)
    have none_left : (n : Int) - (k : Nat) ≤ 0 := by have : n ≤ k := over; omega
    exact wpAny_pyNext_long_end (J.ok.hd calm) there none_left fun hp2 rest =>
      ⟨rfl, J.turned (t' := sh.toks) (fun b o nb e => rest b o nb e) q0 q1 q3 q4 q5⟩
  self := fun _ _ _ _ _ there q => wpAny_pyIter_longiter there q
section
variable {X : Cx} {tg : Expr}
/-- a range just made, of any ends, gives an iterator -/
theorem range_any {pins : List (Addr × Obj)} {σ : L2.St} {H : Hp} {sh : Shared} {R : It → Hp → Prop} {E : Value → Shared → Prop} {lo hi : Int} {t u v : Tok} {tk : Nat} {ro : Obj}
    (er : ro = { cls := .type "range", data := .fields #[.int lo t, .int hi u, .int 1 v] }) (J : Inv X pins σ H sh) (q : R (Itr lo (hi - lo).toNat) H) :
    wpAny (model X.prog X.w) X.A (pyIter (.ref sh.heap.objs.size)) (PIE X pins σ tg R) E { sh with heap := sh.heap.push ro, toks := tk } := by
  subst er
  generalize er : ({ cls := .type "range", data := .fields #[.int lo t, .int hi u, .int 1 v] } : Obj) = ro
  have there : IsRange (sh.heap.push ro) sh.heap.objs.size lo hi 1 t u v := by subst er; exact IsRange.new ..
  have J2 : Inv X pins σ H { sh with heap := sh.heap.push ro, toks := tk } := J.kept fun b o e => Heap.get?_push_of_some _ e
  have first : lo + ((0 : Nat) : Int) * 1 = lo := by omega
  have left : (((hi - lo).toNat : Nat) : Int) - ((0 : Nat) : Int) = Builtin.Range.rangeSize lo hi 1 := by
    rw [rangeSize_one]
    split <;> omega
  have fp : ∀ b ∈ [(sh.heap.push ro).objs.size], FpOk X pins H b := fun b hb => by
    rw [List.mem_singleton.mp hb]
    exact J2.fpOk (Nat.le_refl _) (J2.hok.fresh (Nat.le_refl _))
  cases hs : Builtin.Range.small lo hi 1 with
  | true =>
    exact wpAny_pyIter_range there hs ⟨(sh.heap.push ro).objs.size, [(sh.heap.push ro).objs.size], _, _, H, rfl, J2.kept (t' := tk) fun b o e => Heap.get?_push_of_some _ e,
      turn_range _ lo (hi - lo).toNat, (by show IsRangeIter _ _ (lo + ((0 : Nat) : Int) * 1) ((((hi - lo).toNat : Nat) : Int) - ((0 : Nat) : Int)) 1; rw [first, left]; exact Heap.get?_push_size _ rfl), fp, q⟩
  | false =>
    exact wpAny_pyIter_longrange there hs ⟨(sh.heap.push ro).objs.size, [(sh.heap.push ro).objs.size], _, _, H, rfl, J2.kept (t' := tk) fun b o e => Heap.get?_push_of_some _ e,
      turn_long _ lo (hi - lo).toNat, (by show IsLongIter _ _ (lo + ((0 : Nat) : Int) * 1) ((((hi - lo).toNat : Nat) : Int) - ((0 : Nat) : Int)) 1; rw [first, left]; exact Heap.get?_push_size _ rfl), fp, q⟩
def iRng2W (ta : TA) : TI := fun σ H R => ta σ H fun vs H1 => ∃ i j : Int, vs = [.int i, .int j] ∧ R (Itr i (j - i).toNat) H1
theorem pi_range2W {a b : Expr} {ta : TA} {p pos : Pos} (glob : Gl X "range") (own : X.mg "range" = none) (ha : PA X [a, b] ta)
    (two : starEach [a, b] X.env = [(false, eval a X.env), (false, eval b X.env)] := by rfl) (one : starEach [b] X.env = [(false, eval b X.env)] := by rfl) :
    PI X tg (.Call (.Name "range" p) [a, b] [] pos) (iRng2W ta) :=
  ⟨fun pins sh σ H R J h => Call_ (ld_blt J glob own boot_range (PyProof.Rows.callWith_type1 (thn (ha.run pos pins sh σ H _ J h) fun us s1 ⟨vs, H1, J1, r1, i, j, e, q⟩ => by
    subst e
    obtain ⟨u1, u2, rfl, ⟨t, rfl⟩, ⟨t', rfl⟩⟩ := vals2 r1
    exact call_range_2 (range_any rfl J1 q)) (by rw [two, one]) (by rw [one]; rfl)))⟩
end
end Hz
namespace Hz
open PySem PySem.Spec PyProof.Rows L2
/-! ### a comprehension over a range, with a test -/
section
variable {K : PySem.W.Frag} {g : TG} {tt : TT} {te : TE} {vs : List Nat} {σ : L2.St} {H : Hp}
theorem z_lcRF {n : Nat} {lo : Int} {Q : VK} {wi : TI} (hwi : ∀ R : It → Hp → Prop, (∀ H1, Ex [] H H1 → R (Itr lo n) H1) → wi σ H R) (hn : n < 100000) (p : Nat → Bool) (f : Nat → V)
    (turn : ∀ H1, Ex [] H H1 → ∀ i, i < n → ∀ D H', H1 D = none → Ex [] H1 H' → H' D ≠ none → ∀ (N : VK) (M : Hp → Prop), (p i = true → ∀ H3, Ex [] H' H3 → N (f i) H3) → (p i = false → ∀ H3, Ex [] H' H3 → M H3) →
      g (.int (lo + i)) (wipe σ vs) H' fun σ2 H2 => wipe σ2 vs = wipe σ vs ∧ tt σ2 H2 fun b H3 => if b = true then te σ2 H3 N else M H3)
    (fin : ∀ H1, Ex [] H H1 → ∀ D H', H1 D = none → H' D = some (.lst (((List.range n).filter p).map f)) → Ex [] H1 H' → Q (.ref D) H') : tLc wi g tt te vs σ H Q := by
  refine hwi _ fun H1 x1 D hD => ?_
  have stay : ∀ {H' H3 : Hp} {xs : List V}, Ex [] H1 H' → Ex [] H' H3 → H' D = some (.lst xs) → H3 D = some (.lst xs) := fun _ e h => e.1 _ _ (by simp) h
  refine lc_range (fun i H' => Ex [] H1 H' ∧ H' D = some (.lst (((List.range i).filter p).map f))) ⟨Ex.new hD, upd_same⟩ (fun i H' hi hP => ?_) (fun H' hP => fin H1 x1 D H' hD hP.2 hP.1)
  obtain ⟨e1, hd⟩ := hP
  refine turn H1 x1 i hi D H' hD e1 (by rw [hd]; exact fun z => by cases z) _ _ (fun hp H3 e3 => ?_) (fun hp H3 e3 => ?_)
  · refine ⟨_, stay e1 e3 hd, sz_lt ?_, (e1.trans e3).mutNew' hD, ?_⟩
    · rw [List.length_map]
      have := List.length_filter_le p (List.range i)
      rw [List.length_range] at this
      omega
    · rw [upd_same, List.range_succ, List.filter_append, List.map_append, List.filter_cons_of_pos hp]
      rfl
  · refine ⟨e1.trans e3, ?_⟩
    rw [stay e1 e3 hd, List.range_succ, List.filter_append, List.map_append, List.filter_cons_of_neg (by rw [hp]; exact Bool.false_ne_true)]
    simp
end
end Hz
set_option Elab.async false
set_option linter.all false
namespace Hz
namespace Hill
def L (h : Hill) : Nat := h.year.length
def drop (h : Hill) (k : Nat) : Int := ((h.year[k % h.L]?).map (·.1)).getD 0
def isOpen (h : Hill) (k : Nat) : Bool := ((h.year[k % h.L]?).map (·.2)).getD false
/-- what days below n gave -/
def ge (h : Hill) (n : Nat) : Int := ((n / h.L : Nat) : Int) * h.drops + ((h.year.take (n % h.L)).map (·.1)).sum
/-- what days up to n gave -/
def given (h : Hill) (n : Nat) : Int := h.ge (n + 1)
theorem at_day {h : Hill} (hL : 0 < h.L) (k : Nat) : ∃ d, h.year[k % h.L]? = some d ∧ h.drop k = d.1 ∧ h.isOpen k = d.2 := by
  have hk : k % h.L < h.year.length := Nat.mod_lt _ hL
  refine ⟨h.year[k % h.L], List.getElem?_eq_getElem hk, ?_, ?_⟩
  · unfold drop; rw [List.getElem?_eq_getElem hk]; rfl
  · unfold isOpen; rw [List.getElem?_eq_getElem hk]; rfl
theorem take_sum {l : List (Int × Bool)} {i : Nat} {d : Int × Bool} (h : l[i]? = some d) : ((l.take (i + 1)).map (·.1)).sum = ((l.take i).map (·.1)).sum + d.1 := by
  rw [List.take_add_one, h, List.map_append, List.sum_append]
  simp
theorem ge_succ {h : Hill} (hL : 0 < h.L) (n : Nat) : h.ge (n + 1) = h.ge n + h.drop n := by
  obtain ⟨d, hd, ed, _⟩ := at_day hL n
  have hlt : n % h.L < h.L := Nat.mod_lt _ hL
  unfold ge
  rw [ed]
  by_cases c : n % h.L + 1 < h.L
  · have e1 : (n + 1) / h.L = n / h.L := by
      rw [Nat.succ_div]
      have : ¬ h.L ∣ n + 1 := by
        intro z
        have := Nat.mod_eq_zero_of_dvd z
        rw [Nat.add_mod, Nat.mod_eq_of_lt (show 1 < h.L by omega), Nat.mod_eq_of_lt c] at this
        omega
      rw [if_neg this]; omega
    have e2 : (n + 1) % h.L = n % h.L + 1 := by
      rw [Nat.add_mod, Nat.mod_eq_of_lt (show 1 < h.L by omega), Nat.mod_eq_of_lt c]
    rw [e1, e2, take_sum hd]
    omega
  · have ec : n % h.L + 1 = h.L := by omega
    have en := Nat.div_add_mod n h.L
    have e0 : n + 1 = h.L * (n / h.L + 1) := by rw [Nat.mul_add, Nat.mul_one]; omega
    have e1 : (n + 1) / h.L = n / h.L + 1 := by rw [e0]; exact Nat.mul_div_cancel_left _ hL
    have e2 : (n + 1) % h.L = 0 := by rw [e0]; exact Nat.mul_mod_right _ _
    have e3 : ((h.year.take (n % h.L)).map (·.1)).sum + d.1 = h.drops := by
      rw [← take_sum hd, ec]
      unfold L drops
      rw [List.take_length]
    rw [e1, e2, List.take_zero, List.map_nil, List.sum_nil]
    have e4 : (((n / h.L + 1 : Nat)) : Int) * h.drops = ((n / h.L : Nat) : Int) * h.drops + h.drops := by
      rw [show (((n / h.L + 1 : Nat)) : Int) = ((n / h.L : Nat) : Int) + 1 from rfl, Int.add_mul, Int.one_mul]
    rw [e4]
    omega
theorem given_eq {h : Hill} (hL : 0 < h.L) (n : Nat) : h.given n = ((n / h.L : Nat) : Int) * h.drops + ((h.year.take (n % h.L + 1)).map (·.1)).sum := by
  obtain ⟨d, hd, ed, _⟩ := at_day hL n
  unfold given
  rw [ge_succ hL, ed, take_sum hd]
  unfold ge
  omega
theorem given_succ {h : Hill} (hL : 0 < h.L) (n : Nat) : h.given (n + 1) = h.given n + h.drop (n + 1) := ge_succ hL (n + 1)
/-- days that give nothing below nought -/
def Nn (h : Hill) : Prop := ∀ d, d ∈ h.year → 0 ≤ d.1
theorem drop_nn {h : Hill} (hN : h.Nn) (hL : 0 < h.L) (n : Nat) : 0 ≤ h.drop n := by
  obtain ⟨d, hd, ed, _⟩ := at_day hL n
  rw [ed]
  exact hN d (List.mem_of_getElem? hd)
theorem ge_mono {h : Hill} (hN : h.Nn) (hL : 0 < h.L) {n m : Nat} (l : n ≤ m) : h.ge n ≤ h.ge m := by
  induction m with
  | zero => have : n = 0 := by omega
            subst this; exact Int.le_refl _
  | succ m ih =>
    by_cases c : n = m + 1
    · subst c; exact Int.le_refl _
    · have := ih (by omega)
      have d := drop_nn hN hL m
      rw [ge_succ hL]
      omega
theorem given_mono {h : Hill} (hN : h.Nn) (hL : 0 < h.L) {n m : Nat} (l : n ≤ m) : h.given n ≤ h.given m := ge_mono hN hL (by omega)
theorem ge_year {h : Hill} (hL : 0 < h.L) (n k : Nat) : h.ge (n + k * h.L) = h.ge n + k * h.drops := by
  unfold ge
  rw [Nat.add_mul_mod_self_right, Nat.add_mul_div_right _ _ hL]
  rw [show ((n / h.L + k : Nat) : Int) = ((n / h.L : Nat) : Int) + (k : Int) from rfl, Int.add_mul]
  omega
theorem given_year {h : Hill} (hL : 0 < h.L) (n k : Nat) : h.given (n + k * h.L) = h.given n + k * h.drops := by
  unfold given
  rw [show n + k * h.L + 1 = (n + 1) + k * h.L by omega, ge_year hL]
theorem isOpen_year {h : Hill} (n k : Nat) : h.isOpen (n + k * h.L) = h.isOpen n := by
  unfold isOpen
  rw [Nat.add_mul_mod_self_right]
theorem ge_zero (h : Hill) : h.ge 0 = 0 := by
  unfold ge
  simp
theorem least {P : Nat → Prop} (hd : ∀ n, P n ∨ ¬ P n) (n : Nat) : ∀ m, n ≤ m → P m → ∃ k, n ≤ k ∧ k ≤ m ∧ P k ∧ ∀ j, n ≤ j → j < k → ¬ P j := by
  intro m
  induction m using Nat.strongRecOn with
  | ind m ih =>
    intro hm hp
    by_cases c : ∃ j, n ≤ j ∧ j < m ∧ P j
    · obtain ⟨j, h1, h2, h3⟩ := c
      obtain ⟨k, a, b, p, q⟩ := ih j h2 h1 h3
      exact ⟨k, a, by omega, p, q⟩
    · exact ⟨m, hm, Nat.le_refl _, hp, fun j a b p => c ⟨j, a, b, p⟩⟩
/-- m is the first open day from n on -/
def OpenFrom (h : Hill) (n m : Nat) : Prop := n ≤ m ∧ h.isOpen m = true ∧ ∀ k, n ≤ k → k < m → h.isOpen k = false
theorem openFrom_ex {h : Hill} (hL : 0 < h.L) (ho : ∃ d, d ∈ h.year ∧ d.2 = true) (n : Nat) : ∃ m, h.OpenFrom n m ∧ m < n + h.L := by
  obtain ⟨d, hd, e⟩ := ho
  obtain ⟨j, hj, ej⟩ := List.getElem_of_mem hd
  have hjo : ∀ q, h.isOpen (j + q * h.L) = true := fun q => by
    rw [isOpen_year]
    unfold isOpen
    rw [Nat.mod_eq_of_lt (show j < h.L from hj), List.getElem?_eq_getElem hj, ej]
    exact e
  have hjl : j < h.L := hj
  -- the greatest year's place below n + L
  have en := Nat.div_add_mod n h.L
  have hmod : n % h.L < h.L := Nat.mod_lt _ hL
  have hc : n / h.L * h.L = h.L * (n / h.L) := Nat.mul_comm _ _
  by_cases c : n % h.L ≤ j
  · have h1 : n ≤ j + n / h.L * h.L := by rw [hc]; omega
    obtain ⟨k, a, b, p, q⟩ := least (P := fun k => h.isOpen k = true) (fun k => Decidable.em _) n _ h1 (hjo _)
    exact ⟨k, ⟨a, p, fun i x y => Bool.eq_false_iff.mpr (q i x y)⟩, by rw [hc] at b; omega⟩
  · have h1 : n ≤ j + (n / h.L + 1) * h.L := by rw [Nat.add_mul, hc]; omega
    obtain ⟨k, a, b, p, q⟩ := least (P := fun k => h.isOpen k = true) (fun k => Decidable.em _) n _ h1 (hjo _)
    exact ⟨k, ⟨a, p, fun i x y => Bool.eq_false_iff.mpr (q i x y)⟩, by rw [Nat.add_mul, hc] at b; omega⟩
theorem openFrom_uniq {h : Hill} {n a b : Nat} (x : h.OpenFrom n a) (y : h.OpenFrom n b) : a = b := by
  obtain ⟨x1, x2, x3⟩ := x
  obtain ⟨y1, y2, y3⟩ := y
  rcases Nat.lt_trichotomy a b with c | c | c
  · rw [y3 a x1 c] at x2; cases x2
  · exact c
  · rw [x3 b y1 c] at y2; cases y2
/-- m is the first open day by whose evening t drops were given -/
def DayOf (h : Hill) (t : Int) (m : Nat) : Prop := h.isOpen m = true ∧ t ≤ h.given m ∧ ∀ k, k < m → h.isOpen k = true → h.given k < t
theorem dayOf_uniq {h : Hill} {t : Int} {a b : Nat} (x : h.DayOf t a) (y : h.DayOf t b) : a = b := by
  obtain ⟨x1, x2, x3⟩ := x
  obtain ⟨y1, y2, y3⟩ := y
  rcases Nat.lt_trichotomy a b with c | c | c
  · have := y3 a c x1; omega
  · exact c
  · have := x3 b c y1; omega
theorem dayOf_of {h : Hill} (hN : h.Nn) (hL : 0 < h.L) {t : Int} {p m : Nat} (h1 : t ≤ h.given p) (h2 : ∀ k, k < p → h.given k < t) (h3 : h.OpenFrom p m) : h.DayOf t m := by
  obtain ⟨a, b, c⟩ := h3
  refine ⟨b, Int.le_trans h1 (given_mono hN hL a), fun k hk ho => ?_⟩
  by_cases d : k < p
  · exact h2 k d
  · rw [c k (by omega) hk] at ho; cases ho
theorem ge_at {h : Hill} (hL : 0 < h.L) (y j : Nat) (hj : j < h.L) : h.ge (y * h.L + j) = y * h.drops + ((h.year.take j).map (·.1)).sum := by
  unfold ge
  rw [Nat.add_comm, Nat.add_mul_div_right _ _ hL, Nat.add_mul_mod_self_right, Nat.div_eq_of_lt hj, Nat.mod_eq_of_lt hj, Nat.zero_add]
theorem drop_at {h : Hill} (y j : Nat) (hj : j < h.L) : h.drop (y * h.L + j) = (h.year[j]'hj).1 := by
  unfold drop
  rw [Nat.add_comm, Nat.add_mul_mod_self_right, Nat.mod_eq_of_lt hj, List.getElem?_eq_getElem hj]
  rfl
theorem dayOf_ex {h : Hill} (hN : h.Nn) (hL : 0 < h.L) (ho : ∃ d, d ∈ h.year ∧ d.2 = true) (hd : 0 < h.drops) (t : Int) : ∃ m, h.DayOf t m := by
  obtain ⟨m0, ⟨a, b, _⟩, _⟩ := openFrom_ex hL ho (t.toNat * h.L)
  have h1 : t ≤ h.given m0 := by
    have e := ge_at hL t.toNat 0 hL
    rw [Nat.add_zero, List.take_zero, List.map_nil, List.sum_nil] at e
    have m := ge_mono hN hL (show t.toNat * h.L ≤ m0 + 1 by omega)
    have z : (t.toNat : Int) * 1 ≤ (t.toNat : Int) * h.drops := Int.mul_le_mul_of_nonneg_left (by omega) (by omega)
    show t ≤ h.ge (m0 + 1)
    omega
  obtain ⟨k, _, _, p, q⟩ := least (P := fun k => h.isOpen k = true ∧ t ≤ h.given k) (fun k => Decidable.em _) 0 m0 (Nat.zero_le _) ⟨b, h1⟩
  refine ⟨k, p.1, p.2, fun j hj ho => ?_⟩
  have := q j (Nat.zero_le _) hj
  refine Int.not_le.mp fun z => this ⟨ho, z⟩
end Hill
end Hz
set_option Elab.async false
set_option linter.all false
set_option maxRecDepth 100000
set_option maxHeartbeats 2000000
namespace Hz
open PySem PySem.Spec PyProof.Rows L2 LamX NdefX
/-! ### what stays where tables of code objects grow -/
def tabA (T : List NTab) : List Addr := T.map (·.1)
/-- all that is no table and not in B stays; nothing is gone; the tables are tables still -/
def Et (T : List NTab) (B : List Addr) (H H' : Hp) : Prop := (∀ a o, a ∉ B → (∀ ps, o ≠ HO.tbl ps) → H a = some o → H' a = some o) ∧ (∀ a, H' a = none → H a = none) ∧ (TabsN T H → TabsN T H')
section
variable {T : List NTab} {B C : List Addr} {H H1 H2 H' : Hp} {a : Addr} {o : HO}
theorem Et.refl : Et T B H H := ⟨fun _ _ _ _ h => h, fun _ h => h, fun h => h⟩
theorem Et.trans (x : Et T B H H1) (y : Et T B H1 H2) : Et T B H H2 := ⟨fun a o n t h => y.1 a o n t (x.1 a o n t h), fun a h => x.2.1 a (y.2.1 a h), fun h => y.2.2 (x.2.2 h)⟩
theorem Et.sub (h : ∀ a, a ∈ B → a ∈ C) (x : Et T B H H') : Et T C H H' := ⟨fun a o n t q => x.1 a o (fun z => n (h a z)) t q, x.2.1, x.2.2⟩
theorem Et.nil (x : Et T [] H H') : Et T B H H' := x.sub fun _ h => by cases h
theorem Et.free (x : Et T B H H') (h : H' a = none) : H a = none := x.2.1 a h
theorem Et.get (x : Et T B H H') (n : a ∉ B) (h : H a = some o) (t : ∀ ps, o ≠ HO.tbl ps := by intro ps z; cases z) : H' a = some o := x.1 a o n t h
theorem Et.tabs (x : Et T B H H') (h : TabsN T H) : TabsN T H' := x.2.2 h
theorem Et.ex (x : Ex [] H H') : Et T B H H' := ⟨fun a o _ _ h => x.1 a o (by simp) h, x.2, fun h => h.ext x.le0⟩
/-- where what changes is no table and no code object -/
theorem Et.exB (hB : ∀ b, b ∈ B → ∃ xs, H b = some (.lst xs)) (x : Ex B H H') : Et T B H H' := by
  refine ⟨fun a o n _ h => x.1 a o n h, x.2, fun h p hp => ?_⟩
  obtain ⟨ps, h1, h2, h3⟩ := h p hp
  have nb : ∀ {c : Addr} {u : HO}, H c = some u → (∀ xs, u ≠ .lst xs) → c ∉ B := fun {c u} e n z => by
    obtain ⟨xs, q⟩ := hB c z
    rw [e] at q
    exact n xs (Option.some.inj q)
  refine ⟨ps, x.1 _ _ (nb h1 fun xs z => by cases z) h1, h2, fun pos cv hc => ?_⟩
  obtain ⟨c, e1, e2⟩ := h3 pos cv hc
  exact ⟨c, e1, x.1 _ _ (nb e2 fun xs z => by unfold CodeO at z; cases z) e2⟩
theorem Et.exN (x : ExtN H H') (n : ∀ b, H' b = none → H b = none) (t : TabsN T H') : Et T B H H' := ⟨fun a o _ nt h => x a o h nt, n, fun _ => t⟩
/-- what is new at the start need not be kept -/
theorem Et.drop {p : Addr} (h : H p = none) (e : Et T (p :: B) H H') : Et T B H H' := ⟨fun a o n t q =>
  e.1 a o (fun z => by
    rcases List.mem_cons.mp z with z | z
    · rw [z, h] at q; cases q
    · exact n z) t q, e.2⟩
end
/-- a read of what is no table -/
def LeD (H H' : Hp) : Prop := ∀ a o, (∀ ps, o ≠ HO.tbl ps) → H a = some o → H' a = some o
theorem Et.led {T : List NTab} {B : List Addr} {H H' : Hp} (x : Et T B H H') : LeD (wo B H) (wo B H') := fun a o t h => by
  obtain ⟨n, q⟩ := wo_some h
  exact wo_of n (x.1 a o n t q)
theorem Et.led0 {T : List NTab} {H H' : Hp} (x : Et T [] H H') : LeD H H' := fun a o t h => x.1 a o (by simp) t h
theorem LeD.le {H H' : Hp} (e : Le H H') : LeD H H' := fun a o _ h => e a o h
section
variable {K : PySem.W.Frag} {H H' : Hp} {a : Addr} {xs : List V} {t : Bool}
theorem led_rd {u : HO} (nu : ∀ ps, u ≠ HO.tbl ps) (e : LeD H H') (h : Rd H a u) : Rd H' a u := by
  rcases h with h | ⟨o, h⟩
  · exact .inl (e _ _ nu h)
  · exact .inr ⟨o, e _ _ (fun ps z => by cases z) h⟩
theorem led_l (e : LeD H H') (h : SqL K H a xs) : SqL K H' a xs := by
  rcases h with h | h
  · exact .inl (led_rd (fun ps z => by cases z) e h)
  · exact .inr h
theorem led_t (e : LeD H H') (h : SqT K H a xs) : SqT K H' a xs := by
  rcases h with h | h
  · exact .inl (led_rd (fun ps z => by cases z) e h)
  · exact .inr h
theorem led_s (e : LeD H H') (h : Sq K H a xs) : Sq K H' a xs := by
  rcases h with h | h
  · exact .inl (led_l e h)
  · exact .inr (led_t e h)
theorem led_x (e : LeD H H') (h : SqX t K H a xs) : SqX t K H' a xs := by
  cases t with
  | true => exact led_t e (show SqT K H a xs from h)
  | false => exact led_l e (show SqL K H a xs from h)
end
mutual
theorem dp_led {K : PySem.W.Frag} {H H' : Hp} (e : LeD H H') : ∀ (d : PyData) (v : V), Dp K H v d → Dp K H' v d
  | .none, _, h => by cases h; exact .non
  | .bool b, _, h => by cases h; exact .bl b
  | .int i, _, h => by cases h; exact .int i
  | .str x, _, h => by cases h; exact .str x
  | .list ds, _, h => by cases h with | lst h1 h2 => exact .lst (led_l e h1) (dpa_led e ds _ h2)
  | .tuple ds, _, h => by cases h with | tup h1 h2 => exact .tup (led_t e h1) (dpa_led e ds _ h2)
  | .dict _, _, h => by cases h
theorem dpa_led {K : PySem.W.Frag} {H H' : Hp} (e : LeD H H') : ∀ (ds : List PyData) (vs : List V), DpAll K H vs ds → DpAll K H' vs ds
  | [], _, h => by cases h; exact .nil
  | d :: ds, _, h => by cases h with | cons h1 h2 => exact .cons (dp_led e d _ h1) (dpa_led e ds _ h2)
end
theorem Et.dp {T : List NTab} {B : List Addr} {K : PySem.W.Frag} {H H' : Hp} {v : V} {d : PyData} (x : Et T B H H') (h : Dp K (wo B H) v d) : Dp K (wo B H') v d := dp_led x.led _ _ h
theorem Et.dp0 {T : List NTab} {K : PySem.W.Frag} {H H' : Hp} {v : V} {d : PyData} (x : Et T [] H H') (h : Dp K H v d) : Dp K H' v d := dp_led x.led0 _ _ h
theorem Bx.et {T : List NTab} {B : List Addr} {b : Addr} {n : Nat} {H H' : Hp} (h : Bx b n H) (x : Et T B H H') (hb : b ∉ B) : Bx b n H' := by
  obtain ⟨i, j, c, h1, h2, h3, h4, h5, h6⟩ := h
  exact ⟨i, j, c, x.get hb h1, h2, h3, h4, h5, h6⟩
theorem Bx.exT {T : List NTab} {b : Addr} {n : Nat} {H H' : Hp} (h : Bx b n H) (x : Ex [b] H H') : Et T [b] H H' := by
  obtain ⟨i, j, c, h1, _⟩ := h
  exact .exB (fun a ha => by rw [List.mem_singleton.mp ha]; exact ⟨_, h1⟩) x
/-- one name a table -/
theorem tabs_one {T : List NTab} (nd : (tabA T).Nodup) {P : Addr} {nm : Nat → Nat → Str} (hm : (P, nm) ∈ T) : ∀ p ∈ T, p.1 = P → p.2 = nm := fun p hp e => by
  induction T with
  | nil => cases hm
  | cons q T ih =>
    obtain ⟨n1, n2⟩ := List.nodup_cons.mp (show (q.1 :: tabA T).Nodup from nd)
    rcases List.mem_cons.mp hm with z1 | z1 <;> rcases List.mem_cons.mp hp with z2 | z2
    · rw [z2, ← z1]
    · exact absurd (List.mem_map.mpr ⟨p, z2, by rw [e, ← z1]⟩) n1
    · exact absurd (List.mem_map.mpr ⟨_, z1, by rw [← z2]; exact e.symm⟩) n1
    · exact ih n2 z1 z2
/-! ### a def that is handed a function -/
structure FnS (P : Program) (w : World) (K : PySem.W.Frag) (mg : Str → Option Value) (base : Heap) (k : Nat) (f : Addr) (fd : FuncData) (ps : List Str) (sp : Shared → List Env → Sp) : Prop where
  len : ∀ s outer vs H Q E, sp s outer vs H Q E → vs.length = ps.length
  run : ∀ (A : Around) (outer : List Env) (s : Shared) (H : Hp) (args : Args) (us : List Value) (vs : List V) (Q : VK) (E : XK),
    Room k A → Env0 P w K mg base A outer s H → BindsTo s fd args (ps.zip us) → Vals vs us → sp s outer vs H Q E → codeAny (model P w) A (.call (.ref f) args) (CR CX0 outer P w H s Q E) s
section
variable {P : Program} {w : World} {K : PySem.W.Frag} {mg : Str → Option Value} {base : Heap} {k : Nat} {f : Addr} {fd : FuncData} {ps : List Str}
theorem okS {sp : Shared → List Env → Sp} {x qual : Str} {st : Stmt} {N : List Str} (F : Fun K x qual st f fd) (S : FnScope N ps (defScope st)) (len : ∀ s outer vs H Q E, sp s outer vs H Q E → vs.length = ps.length)
    (body : ∀ (cdv : Value) (A : Around) (outer : List Env) (s : Shared) (H : Hp) (vs : List V) (Q : VK) (E : XK), Room k (A.deeper (envOfC qual (defScope st) s.heap.objs.size f cdv)) → sp s outer vs H Q E →
      ∃ t, PSs (cxOf CX0 P w K mg base N qual (defScope st) f cdv A outer s H E).nox (defBody st) t ∧ t { nx := fun _ H' => Q .non H', rt := Q } (start N vs) H) : FnS P w K mg base (k + 1) f fd ps sp := by
  obtain ⟨oc, od, kV, doc, pm, an, cdv, ct, osl, rfl, lk, code⟩ := F.ex
  refine ⟨len, fun A outer s H args us vs Q E room e0 bd rv want => ?_⟩
  have inK : K.In s.heap := e0.mod.kin.keeps fun b o e => (e0.bs b o e).1
  have noLim : s.heap.NoLimit := e0.mod.nolimit.keeps fun b o e => (e0.bs b o e).1
  have places : ∀ y ∈ ps.zip us, (defScope st).names.lookup y.1 = some .local ∨ ((defScope st).names.lookup y.1 = some .cell ∧ ((cellsFrom (s.heap.objs.size + 1) (defScope st).names []).lookup y.1).isSome = true) := by
    rintro ⟨n, v⟩ hy
    exact (S.par n (List.of_mem_zip hy).1).elim .inl fun q => .inr ⟨q, PySem.W.cellsFrom_some _ _ _ (.inl q)⟩
  refine codeAny_call_function room.depth (inK _ _ lk) rfl S.co S.gen rfl (PySem.W.codeRec_of inK code) (bd _ _ _ _ ?_)
  refine wpAny_newFunctionEnv_cells S.kind places fun env made s1 x => ?_
  subst made
  refine ⟨noLim.keeps x.toInCall.keep, codeAny_func ?_⟩
  obtain ⟨t, ht, hq⟩ := body cdv A outer s H vs Q E (room.deeper _) want
  refine wpAny_mono (ht.nox.run [] s1 (start N vs) H _ (inv_start S room.hd e0 (len _ _ _ _ _ _ want) rv x) hq) (fun fl s' ends => ?_) fun _ _ z => z
  match fl, ends with
  | .ret u, ⟨v, σ', H', J, r, q⟩ => exact ⟨v, H', J.os, J.bare, J.base, J.hok, r, q⟩
  | .next, ⟨σ', H', J, q⟩ => exact ⟨V.non, H', J.os, J.bare, J.base, J.hok, rfl, q⟩
  | .brk, ⟨_, _, _, q⟩ => exact q.elim
  | .cont, ⟨_, _, _, q⟩ => exact q.elim
/-- a def whose code object is told -/
theorem okN {sp : Sp} {x qual : Str} {st : Stmt} {N : List Str} {c : Addr} (F : Fun K x qual st f fd) (hc : fd.code = .ref c) (S : FnScope N ps (defScope st)) (len : ∀ vs H Q E, sp vs H Q E → vs.length = ps.length)
    (body : ∀ (A : Around) (outer : List Env) (s : Shared) (H : Hp) (vs : List V) (Q : VK) (E : XK), Room k (A.deeper (envOfC qual (defScope st) s.heap.objs.size f (.ref c))) → sp vs H Q E →
      ∃ t, PSs (cxOf CX0 P w K mg base N qual (defScope st) f (.ref c) A outer s H E).nox (defBody st) t ∧ t { nx := fun _ H' => Q .non H', rt := Q } (start N vs) H) : FnOk P w K mg base CX0 (k + 1) f fd ps sp := by
  obtain ⟨oc, od, kV, doc, pm, an, cdv, ct, osl, rfl, lk, hcd⟩ := F.ex
  have e : cdv = .ref c := hc
  subst e
  refine fn_of lk hcd S len fun A outer s H vs Q E hr hsp => ?_
  obtain ⟨t, h, q⟩ := body A outer s H vs Q E hr hsp
  exact ⟨t, h.nox, q⟩
theorem nok_ofx {CX : CXT} {N fr : List Str} {F : NF} {sp : List (Option V) → Sp} (S : NScope N ps fr F.scope) (hb : ∀ (doc pm ctv : Value) (us : List Value), us.length = ps.length → bindArgs (F.fd doc pm ctv) ⟨us, []⟩ = pure (ps.zip us)) (len : ∀ ws vs H Q E, sp ws vs H Q E → vs.length = ps.length)
    (hbody : ∀ (A : Around) (outer : List Env) (s : Shared) (H : Hp) (vs : List V) (ws : List (Option V)) (Q : VK) (E : XK), Room k (A.deeper (envF F f s.heap.objs.size)) → ws.length = fr.length → sp ws vs H Q E →
      ∃ t, PSs (ncx CX P w K mg base N F f A outer s H E).nox F.body t ∧ t { nx := fun _ H' => Q .non H', rt := Q } (startF N vs ws) H) :
    NOk P w K mg base CX (k + 1) f F ps fr sp := nok_of S hb len fun A outer s H vs ws Q E hr _ _ hl hsp => by
  obtain ⟨t, h, q⟩ := hbody A outer s H vs ws Q E hr hl hsp
  exact ⟨t, h.nox, q⟩
end
/-! ### the least number of which a handed function tells True -/
def IsLeast (p : Nat → Bool) (high r : Nat) : Prop := r ≤ high ∧ (∀ m, m < r → p m = false) ∧ (r < high → p r = true)
theorem IsLeast.uniq {p : Nat → Bool} {high r r' : Nat} (a : IsLeast p high r) (b : IsLeast p high r') : r = r' := by
  obtain ⟨a1, a2, a3⟩ := a
  obtain ⟨b1, b2, b3⟩ := b
  rcases Nat.lt_trichotomy r r' with h | h | h
  · have := b2 r h
    rw [a3 (by omega)] at this
    cases this
  · exact h
  · have := a2 r' h
    rw [b3 (by omega)] at this
    cases this
structure LeastPre (P : Program) (w : World) (K : PySem.W.Frag) (mg : Str → Option Value) (base : Heap) (kf : Nat) (fa : Addr) (F : NF) (x : Str) (fr : List Str) (ws : List (Option V)) (H : Hp) (p : Nat → Bool) (high : Nat) : Prop where
  at_ : H fa = some (FnO fa F)
  code : H F.c = some (CodeO F.c F.qual)
  ok : ∃ sp, NOk P w K mg base CX0 kf fa F [x] fr sp ∧ ∀ m H1, m < high → Ex [] H H1 → ∀ Q1 : VK, (∀ H2, Ex [] H1 H2 → Q1 (.bl (p m)) H2) → sp ws [.int (m : Nat)] H1 Q1 E0
  mono : ∀ m n, m ≤ n → n < high → p m = true → p n = true
def spLeastW (P : Program) (w : World) (K : PySem.W.Frag) (mg : Str → Option Value) (base : Heap) (kf : Nat) : Shared → List Env → Sp := fun s outer vs H Q _ => ∃ (fa : Addr) (F : NF) (x : Str) (fr : List Str) (ws : List (Option V)) (p : Nat → Bool) (high : Nat),
  vs = [.ref fa, .int (high : Nat)] ∧ LeastPre P w K mg base kf fa F x fr ws H p high ∧ CellsAt F.cl fr ws s.heap H ∧ (∀ y c, F.cl.lookup y = some c → c ∉ frs outer) ∧ ∀ (r : Nat) H', IsLeast p high r → Ex [] H H' → Q (.int (r : Nat)) H'
/-- the call of the function that was handed in -/
def tCallH (i : Nat) (fa : Addr) (F : NF) (ws : List (Option V)) (sp : List (Option V) → Sp) (t : TA) : TE := fun σ H Q => σ[i]? = some (some (.ref fa)) ∧ H fa = some (FnO fa F) ∧
  t σ H fun vs H1 => H1 fa = some (FnO fa F) ∧ H1 F.c = some (CodeO F.c F.qual) ∧ sp ws vs H1 Q E0
section
variable {X : Cx} {F : NF} {fa : Addr} {ps fr : List Str} {ws : List (Option V)} {i j k : Nat} {x : Str} {sp : List (Option V) → Sp} {t : TA} {e : Expr} {es : List Expr} {p pos : Pos}
theorem pe_callH (Fn : NOk X.prog X.w X.K X.mg X.base CX0 k fa F ps fr sp) (C : CellsAt F.cl fr ws X.s_0.heap X.H_0) (nf : ∀ y c, F.cl.lookup y = some c → c ∉ X.fs) (hr : Room j X.A) (hk : k ≤ j) (hex : X.ex = []) (hN : X.N[i]? = some x) (hv : Vis X.env.scope x) (ha : PA X (e :: es) t)
    (hd : (x == ("__debug__" : Str)) = false := by decide) (hcd : (x == ("__classdict__" : Str)) = false := by decide)
    (he : starEach (e :: es) X.env = (false, eval e X.env) :: starEach es X.env := by rfl) (hpl : (backTo pos (starEach es X.env)).any (·.1) = false := by rfl) :
    PE X (.Call (.Name x p) (e :: es) [] pos) (tCallH i fa F ws sp t) := by
  refine ⟨fun pins s σ H Q I h => ?_⟩
  obtain ⟨hs, hf, ht⟩ := h
  refine wpAny_Call_Name_kw (thn ((pe_var (pos := p) hN hv hd hcd).run pins s σ H (fun v H1 => v = .ref fa ∧ H1 = H) I ⟨.ref fa, hs, rfl, rfl⟩) fun u s1 ⟨v, H1, I1, r1, q1⟩ => ?_)
  obtain ⟨ev, eH⟩ := q1
  subst ev
  rw [eH] at I1
  obtain rfl : u = Value.ref fa := r1
  refine PySem.W.callWith_F (first := []) (fnAt_of I1 hf) (thn (ha.run pos pins s1 σ H _ I1 ht) fun us s2 ⟨vs, H2, I2, r, h1, h2, q⟩ => ⟨fnAt_of I2 h1, ?_⟩) he hpl
  show wpAny _ _ (call (.ref fa) us) _ _ _
  refine wpAny_call (codeAny_mono (Fn.run X.A X.stack s2 H2 us vs ws Q E0 (hr.mono hk) I2.env0 h1 h2 (C.later nf (fun y c _ => by rw [hex]; simp) I2) r q) fun r s' hq => ?_)
  cases r with
  | error e => exact hq.elim
  | ok fl =>
    cases fl with
    | ret u => exact I2.after hq
    | next => exact False.elim hq
    | brk => exact False.elim hq
    | cont => exact False.elim hq
/-- the call that hands a nested def in -/
def tLeast (P : Program) (w : World) (K : PySem.W.Frag) (mg : Str → Option Value) (base : Heap) (kf : Nat) (cl : List (Str × Addr)) (fr : List Str) (js : List Nat) (t : TA) : TE := fun σ H Q => t σ H fun vs H1 => ∃ (fa : Addr) (F : NF) (x : Str) (p : Nat → Bool) (high : Nat),
  vs = [.ref fa, .int (high : Nat)] ∧ F.cl = cl ∧ LeastPre P w K mg base kf fa F x fr (js.map (slotAt σ)) H1 p high ∧ ∀ (r : Nat) H', IsLeast p high r → Ex [] H1 H' → Q (.int (r : Nat)) H'
theorem pe_least {kf : Nat} {fS : Addr} {fdS : FuncData} {cl : List (Str × Addr)} {js : List Nat} (G : FnS X.prog X.w X.K X.mg X.base k fS fdS ps (spLeastW X.prog X.w X.K X.mg X.base kf)) (hr : Room k X.A) (hg : Gl X x) (hm : X.mg x = some (.ref fS)) (hk : PySem.W.keepIn X.K (.ref fS) = true) (hb : Binds X.K fdS ps [])
    (cp : X.Ok → Caps X cl fr js) (hfn : ∀ y, X.fn y = true) (ha : PA X (e :: es) t) (hdb : (x == ("__debug__" : Str)) = false := by decide)
    (he : starEach (e :: es) X.env = (false, eval e X.env) :: starEach es X.env := by rfl) (hpl : (backTo pos (starEach es X.env)).any (·.1) = false := by rfl) :
    PE X (.Call (.Name x p) (e :: es) [] pos) (tLeast X.prog X.w X.K X.mg X.base kf cl fr js t) := by
  refine ⟨fun pins s σ H Q I h => ?_⟩
  refine wpAny_Call_Name_kw (ld_glob I hg hm ?_ hdb)
  refine PySem.W.callWith_K (h₀ := X.base) I.ok.mod.kin hk (thn (ha.run pos pins s σ H _ I h) fun us s1 ⟨vs, H1, I1, r, q⟩ => ⟨I1.kIn, ?_⟩) he hpl
  obtain ⟨fa, F, y, p, high, rfl, ecl, pre, q⟩ := q
  have cap := cp I1.ok
  have nf : ∀ y c, F.cl.lookup y = some c → c ∉ frs X.stack := fun y c e1 z => by
    rw [ecl] at e1
    have e2 := cap.sub y c e1
    rcases List.mem_cons.mp (I1.stkSub c z) with e3 | e3
    · exact I1.cne y c e2 e3
    · obtain ⟨_, o, ho, _⟩ := I1.ok.funs.mem e3
      have := I1.ok.cab y c (hfn y) e2
      exact absurd (Nat.lt_of_lt_of_le (Heap.lt_size ho) this) (Nat.lt_irrefl _)
  have want : spLeastW X.prog X.w X.K X.mg X.base kf s1 X.stack [.ref fa, .int (high : Nat)] H1 Q E0 := ⟨fa, F, y, fr, _, p, high, rfl, pre, by rw [ecl]; exact cells_of I1 cap, nf, q⟩
  have r2 : Vals ([V.ref fa, .int (high : Nat)] ++ []) (us ++ []) := r.append .nil
  have hl : (us ++ []).length = ps.length := by rw [← r2.length]; exact G.len _ _ _ _ _ _ want
  have bd := hb s1 us I1.kIn hl
  rw [List.append_nil] at bd
  refine wpAny_call (codeAny_mono (G.run X.A X.stack s1 H1 ⟨us, []⟩ us _ Q E0 hr I1.env0 bd r want) fun r s' hq => ?_)
  cases r with
  | error e => exact hq.elim
  | ok fl =>
    cases fl with
    | ret u => exact I1.after hq
    | next => exact False.elim hq
    | brk => exact False.elim hq
    | cont => exact False.elim hq
end
theorem tabs_nil {T : List NTab} {cs : List (Addr × Addr)} {H : Hp} (e : tabA T = cs.map (·.2)) (h : ∀ p ∈ cs, H p.2 = some (.tbl #[])) : TabsN T H := fun q hq => by
  have m : q.1 ∈ cs.map (·.2) := by rw [← e]; exact List.mem_map.mpr ⟨q, hq, rfl⟩
  obtain ⟨p, hp, ep⟩ := List.mem_map.mp m
  exact TabN.nil (by rw [← ep]; exact h p hp)
/-! ### a comprehension over a range whose body makes functions -/
theorem tabs_mut {T : List NTab} {H H' : Hp} {D : Addr} (hD : (∃ ys, H D = some (.lst ys)) ∨ H D = none) (x : Ex [D] H H') (h : TabsN T H) : TabsN T H' := by
  rcases hD with hD | hD
  · exact (Et.exB (fun b hb => by rw [List.mem_singleton.mp hb]; exact hD) x).tabs h
  · exact (Et.ex (B := []) (Ex.drop hD x)).tabs h
theorem Et.mutNew {T : List NTab} {C : List Addr} {H H1 : Hp} {p : Addr} {ys : List V} {o : HO} (x : Et T C H H1) (h : H p = none) (hp : H1 p = some (.lst ys)) : Et T C H (upd H1 p o) :=
  ⟨fun a u n t e => by rw [upd_ne (ne_of_none e h)]; exact x.1 a u n t e, fun a q => x.2.1 a (upd_free q), fun t => tabs_mut (.inl ⟨_, hp⟩) (Ex.mut (List.mem_singleton.mpr rfl)) (x.tabs t)⟩
theorem Et.new {T : List NTab} {B : List Addr} {H : Hp} {p : Addr} {o : HO} (h : H p = none) : Et T B H (upd H p o) := Et.ex (Ex.new h)
section
variable {K : PySem.W.Frag} {g : TG} {te : TE} {vs : List Nat} {σ : L2.St} {H : Hp} {T : List NTab} {C : List Addr}
structure LcTab (T : List NTab) (C : List Addr) (H : Hp) (R : Nat → V → Prop) (J : Nat → Hp → Prop) (g : TG) (te : TE) (vs : List Nat) (σ : L2.St) (n : Nat) (item : Nat → V → Prop) (Q : VK) : Prop where
  hC : ∀ b, b ∈ C → H b ≠ none
  hJ : ∀ D i H' H'', H D = none → D ∉ C → (∃ ys, H' D = some (.lst ys)) ∨ H' D = none → Ex [D] H' H'' → J i H' → J i H''
  j0 : J 0 H
  hn : n < 100000
  turn : ∀ i x, i < n → item i x → ∀ D H', H D = none → D ∉ C → Et T C H H' → J i H' → (∃ ys, H' D = some (.lst ys)) → ∀ N : VK, (∀ y H3, Et T C H' H3 → R i y → J (i + 1) H3 → N y H3) → g x (wipe σ vs) H' fun σ2 H2 => wipe σ2 vs = wipe σ vs ∧ te σ2 H2 N
  fin : ∀ D ys H', H D = none → H' D = some (.lst ys) → ys.length = n → (∀ j y, ys[j]? = some y → R j y) → Et T C H H' → J n H' → Q (.ref D) H'
def LcPt (T : List NTab) (C : List Addr) (H : Hp) (R : Nat → V → Prop) (J : Nat → Hp → Prop) (D : Addr) (i : Nat) (H' : Hp) : Prop :=
  Et T C H H' ∧ J i H' ∧ ∃ ys, H' D = some (.lst ys) ∧ ys.length = i ∧ ∀ j y, ys[j]? = some y → R j y
theorem z_lcRt {n : Nat} {lo : Int} {Q : VK} {wi : TI} (hwi : ∀ R : It → Hp → Prop, (∀ H1, Ex [] H H1 → R (Itr lo n) H1) → wi σ H R) (R : Nat → V → Prop) (J : Nat → Hp → Prop)
    (k : ∀ H1, Ex [] H H1 → LcTab T C H1 R J g te vs σ n (fun i x => x = .int (lo + i)) Q) : tLc wi g tYes te vs σ H Q :=
  hwi _ fun H1 x1 D hD => by
    have O := k H1 x1
    have nD : D ∉ C := fun z => O.hC D z hD
    refine lc_range (LcPt T C H1 R J D) ⟨Et.new hD, O.hJ D 0 H1 _ hD nD (.inr hD) (Ex.mut (List.mem_singleton.mpr rfl)) O.j0, [], upd_same, rfl, fun j y h => by simp at h⟩ (fun i H' hi p => ?_) (fun H' p => ?_)
    · obtain ⟨e1, j1, ys, d1, l1, r1⟩ := p
      have h1 := O.turn i _ hi rfl D H' hD nD e1 j1 ⟨ys, d1⟩ (fun y H4 => ∃ acc, H4 D = some (.lst acc) ∧ acc.length < sizeLine ∧ LcPt T C H1 R J D (i + 1) (upd H4 D (.lst (acc ++ [y])))) fun y H3 e r j => by
        have d3 := e.get nD d1
        refine ⟨ys, d3, sz_lt (by have := O.hn; omega), (e1.trans e).mutNew hD d3, O.hJ D _ _ _ hD nD (.inl ⟨_, d3⟩) (Ex.mut (List.mem_singleton.mpr rfl)) j, ys ++ [y], upd_same, by simp [l1], fun m z hk => ?_⟩
        by_cases c : m < ys.length
        · rw [List.getElem?_append_left c] at hk
          exact r1 m z hk
        · have ek : m = i := by
            have : m < (ys ++ [y]).length := by
              obtain ⟨h, _⟩ := List.getElem?_eq_some_iff.mp hk
              exact h
            rw [List.length_append, List.length_singleton] at this
            omega
          subst ek
          rw [List.getElem?_append_right (by omega), l1, Nat.sub_self] at hk
          have ez : y = z := Option.some.inj hk
          subst ez
          exact r
      simpa only [tYes, if_true, eq_self] using h1
    · obtain ⟨e1, j1, ys, d1, l1, r1⟩ := p
      exact O.fin D ys H' hD d1 l1 r1 e1 j1
end
end Hz
set_option Elab.async false
set_option linter.all false
set_option maxRecDepth 100000
set_option maxHeartbeats 4000000
namespace Z64
open PySem PySem.Spec PyProof.Rows L2 Hz LamX NdefX
def topS (i : Nat) : Stmt := PySem.Challenge.pw_honeyturns_k64_whole_spares_or_spills.main.body.getD i (.Pass ⟨0, 0, 0, 0⟩)
abbrev s_is_number : Stmt := topS 2
abbrev N_is_number : List Str := ["thing", "least"]
abbrev P_is_number : List Str := ["thing", "least"]
theorem sc_is_number : FnScope N_is_number P_is_number (defScope s_is_number) := ⟨rfl, rfl, rfl, by decide +kernel, rfl, by decide +kernel, by decide +kernel⟩
abbrev s_is_tuple_of : Stmt := topS 3
abbrev N_is_tuple_of : List Str := ["thing", "many"]
abbrev P_is_tuple_of : List Str := ["thing", "many"]
theorem sc_is_tuple_of : FnScope N_is_tuple_of P_is_tuple_of (defScope s_is_tuple_of) := ⟨rfl, rfl, rfl, by decide +kernel, rfl, by decide +kernel, by decide +kernel⟩
abbrev s_year_drops : Stmt := topS 4
abbrev N_year_drops : List Str := ["hill", "day"]
abbrev P_year_drops : List Str := ["hill"]
theorem sc_year_drops : FnScope N_year_drops P_year_drops (defScope s_year_drops) := ⟨rfl, rfl, rfl, by decide +kernel, rfl, by decide +kernel, by decide +kernel⟩
abbrev s_ring_needs : Stmt := topS 5
abbrev N_ring_needs : List Str := ["hill"]
abbrev P_ring_needs : List Str := ["hill"]
theorem sc_ring_needs : FnScope N_ring_needs P_ring_needs (defScope s_ring_needs) := ⟨rfl, rfl, rfl, by decide +kernel, rfl, by decide +kernel, by decide +kernel⟩
abbrev s_given_by : Stmt := topS 6
abbrev N_given_by : List Str := ["hill", "day", "year", "years", "last", "part"]
abbrev P_given_by : List Str := ["hill", "day"]
theorem sc_given_by : FnScope N_given_by P_given_by (defScope s_given_by) := ⟨rfl, rfl, rfl, by decide +kernel, rfl, by decide +kernel, by decide +kernel⟩
abbrev s_open_from : Stmt := topS 7
abbrev N_open_from : List Str := ["hill", "day", "year"]
abbrev P_open_from : List Str := ["hill", "day"]
theorem sc_open_from : FnScope N_open_from P_open_from (defScope s_open_from) := ⟨rfl, rfl, rfl, by decide +kernel, rfl, by decide +kernel, by decide +kernel⟩
abbrev s_day_of : Stmt := topS 8
abbrev N_day_of : List Str := ["hill", "drops", "year", "years", "before", "missing", "place"]
abbrev P_day_of : List Str := ["hill", "drops"]
theorem sc_day_of : FnScope N_day_of P_day_of (defScope s_day_of) := ⟨rfl, rfl, rfl, by decide +kernel, rfl, by decide +kernel, by decide +kernel⟩
abbrev s_line_of : Stmt := topS 10
abbrev N_line_of : List Str := ["hill", "state"]
abbrev P_line_of : List Str := ["hill", "state"]
theorem sc_line_of : FnScope N_line_of P_line_of (defScope s_line_of) := ⟨rfl, rfl, rfl, by decide +kernel, rfl, by decide +kernel, by decide +kernel⟩
abbrev s_given_next : Stmt := topS 11
abbrev N_given_next : List Str := ["hill", "number"]
abbrev P_given_next : List Str := ["hill", "number"]
theorem sc_given_next : FnScope N_given_next P_given_next (defScope s_given_next) := ⟨rfl, rfl, rfl, by decide +kernel, rfl, by decide +kernel, by decide +kernel⟩
abbrev s_stretches : Stmt := topS 12
abbrev N_stretches : List Str := ["hill", "year", "most", "around", "found", "day", "low", "wide"]
abbrev P_stretches : List Str := ["hill"]
theorem sc_stretches : FnScope N_stretches P_stretches (defScope s_stretches) := ⟨rfl, rfl, rfl, by decide +kernel, rfl, by decide +kernel, by decide +kernel⟩
abbrev s_lost_at : Stmt := topS 13
abbrev N_lost_at : List Str := ["hill", "number", "around", "alike"]
abbrev P_lost_at : List Str := ["hill", "number"]
theorem sc_lost_at : FnScope N_lost_at P_lost_at (defScope s_lost_at) := ⟨rfl, rfl, rfl, by decide +kernel, rfl, by decide +kernel, by decide +kernel⟩
abbrev s_needed : Stmt := topS 14
abbrev N_needed : List Str := ["hill", "ant", "many", "needs", "rounds", "rest", "past"]
abbrev P_needed : List Str := ["hill", "ant", "many"]
theorem sc_needed : FnScope N_needed P_needed (defScope s_needed) := ⟨rfl, rfl, rfl, by decide +kernel, rfl, by decide +kernel, by decide +kernel⟩
abbrev s_common : Stmt := topS 16
abbrev N_common : List Str := ["hill"]
abbrev P_common : List Str := ["hill"]
theorem sc_common : FnScope N_common P_common (defScope s_common) := ⟨rfl, rfl, rfl, by decide +kernel, rfl, by decide +kernel, by decide +kernel⟩
abbrev s_unmet : Stmt := topS 17
abbrev N_unmet : List Str := ["around", "arcs", "parts", "low", "high", "begin", "end", "told", "free"]
abbrev P_unmet : List Str := ["around", "arcs"]
theorem sc_unmet : FnScope N_unmet P_unmet (defScope s_unmet) := ⟨rfl, rfl, rfl, by decide +kernel, rfl, by decide +kernel, by decide +kernel⟩
abbrev s_sparing : Stmt := topS 18
abbrev N_sparing : List Str := ["hill", "ant", "ants", "sums", "arcs", "many", "low", "high", "total"]
abbrev P_sparing : List Str := ["hill", "ant"]
theorem sc_sparing : FnScope N_sparing P_sparing (defScope s_sparing) := ⟨rfl, rfl, rfl, by decide +kernel, rfl, by decide +kernel, by decide +kernel⟩
abbrev s_spares : Stmt := topS 19
abbrev N_spares : List Str := ["hill"]
abbrev P_spares : List Str := ["hill"]
theorem sc_spares : FnScope N_spares P_spares (defScope s_spares) := ⟨rfl, rfl, rfl, by decide +kernel, rfl, by decide +kernel, by decide +kernel⟩
abbrev s_lost_in_all : Stmt := topS 20
abbrev N_lost_in_all : List Str := ["hill", "state", "pairs", "around", "own", "low", "high"]
abbrev P_lost_in_all : List Str := ["hill", "state"]
theorem sc_lost_in_all : FnScope N_lost_in_all P_lost_in_all (defScope s_lost_in_all) := ⟨rfl, rfl, rfl, by decide +kernel, rfl, by decide +kernel, by decide +kernel⟩
abbrev s_gone_back : Stmt := topS 22
abbrev N_gone_back : List Str := ["rings", "wides", "found", "step", "around", "highs", "fewest", "ties", "times", "place"]
abbrev P_gone_back : List Str := ["rings", "wides", "found"]
theorem sc_gone_back : FnScope N_gone_back P_gone_back (defScope s_gone_back) := ⟨rfl, rfl, rfl, by decide +kernel, rfl, by decide +kernel, by decide +kernel⟩
abbrev s_least_steps : Stmt := topS 23
abbrev N_least_steps : List Str := ["highs", "wides", "step", "around", "rings", "rests", "places", "found", "high", "place", "rest", "wide"]
abbrev P_least_steps : List Str := ["highs", "wides", "step", "around"]
theorem sc_least_steps : FnScope N_least_steps P_least_steps (defScope s_least_steps) := ⟨rfl, rfl, rfl, by decide +kernel, rfl, by decide +kernel, by decide +kernel⟩
abbrev s_loss_turn : Stmt := topS 25
abbrev N_loss_turn : List Str := ["hill", "places", "ant", "line", "ants", "around", "wides", "highs", "first", "number", "found", "rounds", "place", "low", "high"]
abbrev P_loss_turn : List Str := ["hill", "places", "ant", "line"]
theorem sc_loss_turn : FnScope N_loss_turn P_loss_turn (defScope s_loss_turn) := ⟨rfl, rfl, rfl, by decide +kernel, rfl, by decide +kernel, by decide +kernel⟩
abbrev s_mark_behind : Stmt := topS 26
abbrev N_mark_behind : List Str := ["hill", "places", "mark", "turn", "ant", "line", "many", "number"]
abbrev P_mark_behind : List Str := ["hill", "places", "mark"]
theorem sc_mark_behind : FnScope N_mark_behind P_mark_behind (defScope s_mark_behind) := ⟨rfl, rfl, rfl, by decide +kernel, rfl, by decide +kernel, by decide +kernel⟩
abbrev s_way_of : Stmt := topS 27
abbrev N_way_of : List Str := ["hill", "ant", "line", "around", "places", "marks", "numbers", "mark", "like"]
abbrev P_way_of : List Str := ["hill", "ant", "line"]
theorem sc_way_of : FnScope N_way_of P_way_of (defScope s_way_of) := ⟨rfl, rfl, rfl, by decide +kernel, rfl, by decide +kernel, by decide +kernel⟩
abbrev s_round_of : Stmt := topS 28
abbrev N_round_of : List Str := ["way", "marks", "again"]
abbrev P_round_of : List Str := ["way"]
theorem sc_round_of : FnScope N_round_of P_round_of (defScope s_round_of) := ⟨rfl, rfl, rfl, by decide +kernel, rfl, by decide +kernel, by decide +kernel⟩
abbrev s_mark_at : Stmt := topS 29
abbrev N_mark_at : List Str := ["way", "number", "marks", "again", "rounds", "past", "turns", "drops", "turn", "ant", "line"]
abbrev P_mark_at : List Str := ["way", "number"]
theorem sc_mark_at : FnScope N_mark_at P_mark_at (defScope s_mark_at) := ⟨rfl, rfl, rfl, by decide +kernel, rfl, by decide +kernel, by decide +kernel⟩
abbrev s_state_behind : Stmt := topS 30
abbrev N_state_behind : List Str := ["hill", "day", "ant", "line", "evening"]
abbrev P_state_behind : List Str := ["hill", "day", "ant", "line"]
theorem sc_state_behind : FnScope N_state_behind P_state_behind (defScope s_state_behind) := ⟨rfl, rfl, rfl, by decide +kernel, rfl, by decide +kernel, by decide +kernel⟩
abbrev s_told_loss : Stmt := topS 32
abbrev N_told_loss : List Str := ["hill", "day", "mark", "next_mark", "turn", "ant", "line", "lost"]
abbrev P_told_loss : List Str := ["hill", "day", "mark", "next_mark"]
theorem sc_told_loss : FnScope N_told_loss P_told_loss (defScope s_told_loss) := ⟨rfl, rfl, rfl, by decide +kernel, rfl, by decide +kernel, by decide +kernel⟩
abbrev s_next_loss : Stmt := topS 33
abbrev N_next_loss : List Str := ["hill", "state", "mark", "next_mark"]
abbrev P_next_loss : List Str := ["hill", "state"]
theorem sc_next_loss : FnScope N_next_loss P_next_loss (defScope s_next_loss) := ⟨rfl, rfl, rfl, by decide +kernel, rfl, by decide +kernel, by decide +kernel⟩
abbrev s_losses : Stmt := topS 34
abbrev N_losses : List Str := ["hill", "state", "many", "way", "told", "mark", "number", "next_mark"]
abbrev P_losses : List Str := ["hill", "state", "many"]
theorem sc_losses : FnScope N_losses P_losses (defScope s_losses) := ⟨rfl, rfl, rfl, by decide +kernel, rfl, by decide +kernel, by decide +kernel⟩
abbrev s_paper : Stmt := topS 36
abbrev N_paper : List Str := ["hill", "pairs", "places", "ant", "place"]
abbrev P_paper : List Str := ["hill"]
theorem sc_paper : FnScope N_paper P_paper (defScope s_paper) := ⟨rfl, rfl, rfl, by decide +kernel, rfl, by decide +kernel, by decide +kernel⟩
abbrev s_shows_sparing : Stmt := topS 37
abbrev N_shows_sparing : List Str := ["hill", "thing", "low", "high"]
abbrev P_shows_sparing : List Str := ["hill", "thing"]
theorem sc_shows_sparing : FnScope N_shows_sparing P_shows_sparing (defScope s_shows_sparing) := ⟨rfl, rfl, rfl, by decide +kernel, rfl, by decide +kernel, by decide +kernel⟩
abbrev s_is_row : Stmt := topS 38
abbrev N_is_row : List Str := ["thing", "ants", "places", "part"]
abbrev P_is_row : List Str := ["thing", "ants", "places"]
theorem sc_is_row : FnScope N_is_row P_is_row (defScope s_is_row) := ⟨rfl, rfl, rfl, by decide +kernel, rfl, by decide +kernel, by decide +kernel⟩
abbrev s_shows_spilling : Stmt := topS 39
abbrev N_shows_spilling : List Str := ["hill", "thing", "places", "arcs", "ant", "place", "low", "high", "total", "row"]
abbrev P_shows_spilling : List Str := ["hill", "thing"]
theorem sc_shows_spilling : FnScope N_shows_spilling P_shows_spilling (defScope s_shows_spilling) := ⟨rfl, rfl, rfl, by decide +kernel, rfl, by decide +kernel, by decide +kernel⟩
abbrev s_shows_paper : Stmt := topS 40
abbrev N_shows_paper : List Str := ["hill", "thing"]
abbrev P_shows_paper : List Str := ["hill", "thing"]
theorem sc_shows_paper : FnScope N_shows_paper P_shows_paper (defScope s_shows_paper) := ⟨rfl, rfl, rfl, by decide +kernel, rfl, by decide +kernel, by decide +kernel⟩
abbrev s__law_box : Stmt := topS 42
abbrev N__law_box : List Str := ["_law_script", "_law_k", "_law_cell"]
abbrev P__law_box : List Str := ["_law_script", "_law_k"]
theorem sc__law_box : FnScope N__law_box P__law_box (defScope s__law_box) := ⟨rfl, rfl, rfl, by decide +kernel, rfl, by decide +kernel, by decide +kernel⟩
abbrev s__law_take : Stmt := topS 43
abbrev N__law_take : List Str := ["_law_box_here", "_law_size", "_law_found", "_law_stir", "_law_once", "_law_twice"]
abbrev P__law_take : List Str := ["_law_box_here", "_law_size"]
theorem sc__law_take : FnScope N__law_take P__law_take (defScope s__law_take) := ⟨rfl, rfl, rfl, by decide +kernel, rfl, by decide +kernel, by decide +kernel⟩
abbrev s__law_folded : Stmt := topS 44
abbrev N__law_folded : List Str := ["_law_script", "_law_size", "_law_cells", "_law_k", "_law_cell"]
abbrev P__law_folded : List Str := ["_law_script", "_law_size"]
theorem sc__law_folded : FnScope N__law_folded P__law_folded (defScope s__law_folded) := ⟨rfl, rfl, rfl, by decide +kernel, rfl, by decide +kernel, by decide +kernel⟩
abbrev s__law_of : Stmt := topS 45
abbrev N__law_of : List Str := ["_law_box_here", "_law_some"]
abbrev P__law_of : List Str := ["_law_box_here", "_law_some"]
theorem sc__law_of : FnScope N__law_of P__law_of (defScope s__law_of) := ⟨rfl, rfl, rfl, by decide +kernel, rfl, by decide +kernel, by decide +kernel⟩
abbrev s__law_whole : Stmt := topS 46
abbrev N__law_whole : List Str := ["_law_nest_here", "_law_drip", "_law_lit"]
abbrev P__law_whole : List Str := ["_law_nest_here"]
theorem sc__law_whole : FnScope N__law_whole P__law_whole (defScope s__law_whole) := ⟨rfl, rfl, rfl, by decide +kernel, rfl, by decide +kernel, by decide +kernel⟩
abbrev s__law_nest : Stmt := topS 47
abbrev N__law_nest : List Str := ["_law_box_here", "_law_length", "_law_size", "_law_wide_here", "_law_year", "_law_k", "_law_drip", "_law_wet", "_law_lit", "_law_whole_here", "_law_wants", "_law_cap", "_law_pair"]
abbrev P__law_nest : List Str := ["_law_box_here", "_law_length", "_law_size", "_law_wide_here"]
theorem sc__law_nest : FnScope N__law_nest P__law_nest (defScope s__law_nest) := ⟨rfl, rfl, rfl, by decide +kernel, rfl, by decide +kernel, by decide +kernel⟩
abbrev s__law_wide : Stmt := topS 48
abbrev N__law_wide : List Str := ["_law_box_here"]
abbrev P__law_wide : List Str := ["_law_box_here"]
theorem sc__law_wide : FnScope N__law_wide P__law_wide (defScope s__law_wide) := ⟨rfl, rfl, rfl, by decide +kernel, rfl, by decide +kernel, by decide +kernel⟩
abbrev s__law_now : Stmt := topS 49
abbrev N__law_now : List Str := ["_law_box_here", "_law_nest_here", "_law_year", "_law_wants", "_law_cap", "_law_dawns", "_law_dawn", "_law_k"]
abbrev P__law_now : List Str := ["_law_box_here", "_law_nest_here"]
theorem sc__law_now : FnScope N__law_now P__law_now (defScope s__law_now) := ⟨rfl, rfl, rfl, by decide +kernel, rfl, by decide +kernel, by decide +kernel⟩
abbrev s__law_given : Stmt := topS 50
abbrev N__law_given : List Str := ["_law_nest_here", "_law_dawn", "_law_year", "_law_part", "_law_drip", "_law_lit"]
abbrev P__law_given : List Str := ["_law_nest_here", "_law_dawn"]
theorem sc__law_given : FnScope N__law_given P__law_given (defScope s__law_given) := ⟨rfl, rfl, rfl, by decide +kernel, rfl, by decide +kernel, by decide +kernel⟩
abbrev s__law_common_nest : Stmt := topS 51
abbrev N__law_common_nest : List Str := ["_law_box_here", "_law_nest_here", "_law_whole_here", "_law_way", "_law_part"]
abbrev P__law_common_nest : List Str := ["_law_box_here"]
theorem sc__law_common_nest : FnScope N__law_common_nest P__law_common_nest (defScope s__law_common_nest) := ⟨rfl, rfl, rfl, by decide +kernel, rfl, by decide +kernel, by decide +kernel⟩
abbrev s__law_of_class : Stmt := topS 52
abbrev N__law_of_class : List Str := ["_law_nest_here", "_law_brood", "_law_kind", "_law_part", "_law_year", "_law_dawn", "_law_jar"]
abbrev P__law_of_class : List Str := ["_law_nest_here", "_law_brood", "_law_kind"]
theorem sc__law_of_class : FnScope N__law_of_class P__law_of_class (defScope s__law_of_class) := ⟨rfl, rfl, rfl, by decide +kernel, rfl, by decide +kernel, by decide +kernel⟩
abbrev s__law_sparing_right : Stmt := topS 53
abbrev N__law_sparing_right : List Str := ["_law_nest_here", "_law_brood", "_law_part", "_law_told", "_law_inside", "_law_kind", "_law_now_here", "_law_due", "_law_pair", "_law_end", "_law_least", "_law_greatest"]
abbrev P__law_sparing_right : List Str := ["_law_nest_here", "_law_brood"]
theorem sc__law_sparing_right : FnScope N__law_sparing_right P__law_sparing_right (defScope s__law_sparing_right) := ⟨rfl, rfl, rfl, by decide +kernel, rfl, by decide +kernel, by decide +kernel⟩
abbrev s__law_right : Stmt := topS 54
abbrev N__law_right : List Str := ["_law_box_here", "_law_again", "_law_nest_here", "_law_part", "_law_sheet", "_law_now_here", "_law_pairs", "_law_brood", "_law_moved", "_law_place", "_law_pair", "_law_kind", "_law_a", "_law_b"]
abbrev P__law_right : List Str := ["_law_box_here"]
theorem sc__law_right : FnScope N__law_right P__law_right (defScope s__law_right) := ⟨rfl, rfl, rfl, by decide +kernel, rfl, by decide +kernel, by decide +kernel⟩
abbrev s_law : Stmt := topS 55
abbrev N_law : List Str := ["_law_script", "_law_cells", "_law_k"]
abbrev P_law : List Str := ["_law_script"]
theorem sc_law : FnScope N_law P_law (defScope s_law) := ⟨rfl, rfl, rfl, by decide +kernel, rfl, by decide +kernel, by decide +kernel⟩
structure Txt (K : PySem.W.Frag) (mg : Str → Option Value) where
  a_is_number : Addr
  d_is_number : FuncData
  F_is_number : Fun K "is_number" "is_number" s_is_number a_is_number d_is_number
  m_is_number : mg "is_number" = some (.ref a_is_number)
  a_is_tuple_of : Addr
  d_is_tuple_of : FuncData
  F_is_tuple_of : Fun K "is_tuple_of" "is_tuple_of" s_is_tuple_of a_is_tuple_of d_is_tuple_of
  m_is_tuple_of : mg "is_tuple_of" = some (.ref a_is_tuple_of)
  a_year_drops : Addr
  d_year_drops : FuncData
  F_year_drops : Fun K "year_drops" "year_drops" s_year_drops a_year_drops d_year_drops
  m_year_drops : mg "year_drops" = some (.ref a_year_drops)
  a_ring_needs : Addr
  d_ring_needs : FuncData
  F_ring_needs : Fun K "ring_needs" "ring_needs" s_ring_needs a_ring_needs d_ring_needs
  m_ring_needs : mg "ring_needs" = some (.ref a_ring_needs)
  a_given_by : Addr
  d_given_by : FuncData
  F_given_by : Fun K "given_by" "given_by" s_given_by a_given_by d_given_by
  m_given_by : mg "given_by" = some (.ref a_given_by)
  a_open_from : Addr
  d_open_from : FuncData
  F_open_from : Fun K "open_from" "open_from" s_open_from a_open_from d_open_from
  m_open_from : mg "open_from" = some (.ref a_open_from)
  a_day_of : Addr
  d_day_of : FuncData
  F_day_of : Fun K "day_of" "day_of" s_day_of a_day_of d_day_of
  m_day_of : mg "day_of" = some (.ref a_day_of)
  a_line_of : Addr
  d_line_of : FuncData
  F_line_of : Fun K "line_of" "line_of" s_line_of a_line_of d_line_of
  m_line_of : mg "line_of" = some (.ref a_line_of)
  a_given_next : Addr
  d_given_next : FuncData
  F_given_next : Fun K "given_next" "given_next" s_given_next a_given_next d_given_next
  m_given_next : mg "given_next" = some (.ref a_given_next)
  a_stretches : Addr
  d_stretches : FuncData
  F_stretches : Fun K "stretches" "stretches" s_stretches a_stretches d_stretches
  m_stretches : mg "stretches" = some (.ref a_stretches)
  a_lost_at : Addr
  d_lost_at : FuncData
  F_lost_at : Fun K "lost_at" "lost_at" s_lost_at a_lost_at d_lost_at
  m_lost_at : mg "lost_at" = some (.ref a_lost_at)
  a_needed : Addr
  d_needed : FuncData
  F_needed : Fun K "needed" "needed" s_needed a_needed d_needed
  m_needed : mg "needed" = some (.ref a_needed)
  a_common : Addr
  d_common : FuncData
  F_common : Fun K "common" "common" s_common a_common d_common
  m_common : mg "common" = some (.ref a_common)
  a_unmet : Addr
  d_unmet : FuncData
  F_unmet : Fun K "unmet" "unmet" s_unmet a_unmet d_unmet
  m_unmet : mg "unmet" = some (.ref a_unmet)
  a_sparing : Addr
  d_sparing : FuncData
  F_sparing : Fun K "sparing" "sparing" s_sparing a_sparing d_sparing
  m_sparing : mg "sparing" = some (.ref a_sparing)
  a_spares : Addr
  d_spares : FuncData
  F_spares : Fun K "spares" "spares" s_spares a_spares d_spares
  m_spares : mg "spares" = some (.ref a_spares)
  a_lost_in_all : Addr
  d_lost_in_all : FuncData
  F_lost_in_all : Fun K "lost_in_all" "lost_in_all" s_lost_in_all a_lost_in_all d_lost_in_all
  m_lost_in_all : mg "lost_in_all" = some (.ref a_lost_in_all)
  a_gone_back : Addr
  d_gone_back : FuncData
  F_gone_back : Fun K "gone_back" "gone_back" s_gone_back a_gone_back d_gone_back
  m_gone_back : mg "gone_back" = some (.ref a_gone_back)
  a_least_steps : Addr
  d_least_steps : FuncData
  F_least_steps : Fun K "least_steps" "least_steps" s_least_steps a_least_steps d_least_steps
  m_least_steps : mg "least_steps" = some (.ref a_least_steps)
  a_loss_turn : Addr
  d_loss_turn : FuncData
  F_loss_turn : Fun K "loss_turn" "loss_turn" s_loss_turn a_loss_turn d_loss_turn
  m_loss_turn : mg "loss_turn" = some (.ref a_loss_turn)
  a_mark_behind : Addr
  d_mark_behind : FuncData
  F_mark_behind : Fun K "mark_behind" "mark_behind" s_mark_behind a_mark_behind d_mark_behind
  m_mark_behind : mg "mark_behind" = some (.ref a_mark_behind)
  a_way_of : Addr
  d_way_of : FuncData
  F_way_of : Fun K "way_of" "way_of" s_way_of a_way_of d_way_of
  m_way_of : mg "way_of" = some (.ref a_way_of)
  a_round_of : Addr
  d_round_of : FuncData
  F_round_of : Fun K "round_of" "round_of" s_round_of a_round_of d_round_of
  m_round_of : mg "round_of" = some (.ref a_round_of)
  a_mark_at : Addr
  d_mark_at : FuncData
  F_mark_at : Fun K "mark_at" "mark_at" s_mark_at a_mark_at d_mark_at
  m_mark_at : mg "mark_at" = some (.ref a_mark_at)
  a_state_behind : Addr
  d_state_behind : FuncData
  F_state_behind : Fun K "state_behind" "state_behind" s_state_behind a_state_behind d_state_behind
  m_state_behind : mg "state_behind" = some (.ref a_state_behind)
  a_told_loss : Addr
  d_told_loss : FuncData
  F_told_loss : Fun K "told_loss" "told_loss" s_told_loss a_told_loss d_told_loss
  m_told_loss : mg "told_loss" = some (.ref a_told_loss)
  a_next_loss : Addr
  d_next_loss : FuncData
  F_next_loss : Fun K "next_loss" "next_loss" s_next_loss a_next_loss d_next_loss
  m_next_loss : mg "next_loss" = some (.ref a_next_loss)
  a_losses : Addr
  d_losses : FuncData
  F_losses : Fun K "losses" "losses" s_losses a_losses d_losses
  m_losses : mg "losses" = some (.ref a_losses)
  a_paper : Addr
  d_paper : FuncData
  F_paper : Fun K "paper" "paper" s_paper a_paper d_paper
  m_paper : mg "paper" = some (.ref a_paper)
  a_shows_sparing : Addr
  d_shows_sparing : FuncData
  F_shows_sparing : Fun K "shows_sparing" "shows_sparing" s_shows_sparing a_shows_sparing d_shows_sparing
  m_shows_sparing : mg "shows_sparing" = some (.ref a_shows_sparing)
  a_is_row : Addr
  d_is_row : FuncData
  F_is_row : Fun K "is_row" "is_row" s_is_row a_is_row d_is_row
  m_is_row : mg "is_row" = some (.ref a_is_row)
  a_shows_spilling : Addr
  d_shows_spilling : FuncData
  F_shows_spilling : Fun K "shows_spilling" "shows_spilling" s_shows_spilling a_shows_spilling d_shows_spilling
  m_shows_spilling : mg "shows_spilling" = some (.ref a_shows_spilling)
  a_shows_paper : Addr
  d_shows_paper : FuncData
  F_shows_paper : Fun K "shows_paper" "shows_paper" s_shows_paper a_shows_paper d_shows_paper
  m_shows_paper : mg "shows_paper" = some (.ref a_shows_paper)
  a__law_box : Addr
  d__law_box : FuncData
  F__law_box : Fun K "_law_box" "_law_box" s__law_box a__law_box d__law_box
  m__law_box : mg "_law_box" = some (.ref a__law_box)
  a__law_take : Addr
  d__law_take : FuncData
  F__law_take : Fun K "_law_take" "_law_take" s__law_take a__law_take d__law_take
  m__law_take : mg "_law_take" = some (.ref a__law_take)
  a__law_folded : Addr
  d__law_folded : FuncData
  F__law_folded : Fun K "_law_folded" "_law_folded" s__law_folded a__law_folded d__law_folded
  m__law_folded : mg "_law_folded" = some (.ref a__law_folded)
  a__law_of : Addr
  d__law_of : FuncData
  F__law_of : Fun K "_law_of" "_law_of" s__law_of a__law_of d__law_of
  m__law_of : mg "_law_of" = some (.ref a__law_of)
  a__law_whole : Addr
  d__law_whole : FuncData
  F__law_whole : Fun K "_law_whole" "_law_whole" s__law_whole a__law_whole d__law_whole
  m__law_whole : mg "_law_whole" = some (.ref a__law_whole)
  a__law_nest : Addr
  d__law_nest : FuncData
  F__law_nest : Fun K "_law_nest" "_law_nest" s__law_nest a__law_nest d__law_nest
  m__law_nest : mg "_law_nest" = some (.ref a__law_nest)
  a__law_wide : Addr
  d__law_wide : FuncData
  F__law_wide : Fun K "_law_wide" "_law_wide" s__law_wide a__law_wide d__law_wide
  m__law_wide : mg "_law_wide" = some (.ref a__law_wide)
  a__law_now : Addr
  d__law_now : FuncData
  F__law_now : Fun K "_law_now" "_law_now" s__law_now a__law_now d__law_now
  m__law_now : mg "_law_now" = some (.ref a__law_now)
  a__law_given : Addr
  d__law_given : FuncData
  F__law_given : Fun K "_law_given" "_law_given" s__law_given a__law_given d__law_given
  m__law_given : mg "_law_given" = some (.ref a__law_given)
  a__law_common_nest : Addr
  d__law_common_nest : FuncData
  F__law_common_nest : Fun K "_law_common_nest" "_law_common_nest" s__law_common_nest a__law_common_nest d__law_common_nest
  m__law_common_nest : mg "_law_common_nest" = some (.ref a__law_common_nest)
  a__law_of_class : Addr
  d__law_of_class : FuncData
  F__law_of_class : Fun K "_law_of_class" "_law_of_class" s__law_of_class a__law_of_class d__law_of_class
  m__law_of_class : mg "_law_of_class" = some (.ref a__law_of_class)
  a__law_sparing_right : Addr
  d__law_sparing_right : FuncData
  F__law_sparing_right : Fun K "_law_sparing_right" "_law_sparing_right" s__law_sparing_right a__law_sparing_right d__law_sparing_right
  m__law_sparing_right : mg "_law_sparing_right" = some (.ref a__law_sparing_right)
  a__law_right : Addr
  d__law_right : FuncData
  F__law_right : Fun K "_law_right" "_law_right" s__law_right a__law_right d__law_right
  m__law_right : mg "_law_right" = some (.ref a__law_right)
  a_law : Addr
  d_law : FuncData
  F_law : Fun K "law" "law" s_law a_law d_law
  m_law : mg "law" = some (.ref a_law)
  z_len : mg "len" = none
  z_abs : mg "abs" = none
  z_divmod : mg "divmod" = none
  z_sum : mg "sum" = none
  z_all : mg "all" = none
  z_any : mg "any" = none
  z_int : mg "int" = none
  z_bool : mg "bool" = none
  z_list : mg "list" = none
  z_tuple : mg "tuple" = none
  z_max : mg "max" = none
  z_min : mg "min" = none
  z_isinstance : mg "isinstance" = none
  z_range : mg "range" = none
  z_enumerate : mg "enumerate" = none
  z_zip : mg "zip" = none
  z_reversed : mg "reversed" = none
  z_set : mg "set" = none
  z_sorted : mg "sorted" = none
  m_gcd : mg "gcd" = some (.builtin "math.gcd")
section
variable {K : PySem.W.Frag} {mg : Str → Option Value}
theorem Txt.k_is_number (T : Txt K mg) : PySem.W.keepIn K (.ref T.a_is_number) = true := T.F_is_number.kp
theorem Txt.b_is_number (T : Txt K mg) : Binds K T.d_is_number P_is_number [] := T.F_is_number.binds fun _ _ _ _ _ _ us hl => match us, hl with | [_, _], _ => rfl
theorem Txt.k_is_tuple_of (T : Txt K mg) : PySem.W.keepIn K (.ref T.a_is_tuple_of) = true := T.F_is_tuple_of.kp
theorem Txt.b_is_tuple_of (T : Txt K mg) : Binds K T.d_is_tuple_of P_is_tuple_of [] := T.F_is_tuple_of.binds fun _ _ _ _ _ _ us hl => match us, hl with | [_, _], _ => rfl
theorem Txt.k_year_drops (T : Txt K mg) : PySem.W.keepIn K (.ref T.a_year_drops) = true := T.F_year_drops.kp
theorem Txt.b_year_drops (T : Txt K mg) : Binds K T.d_year_drops P_year_drops [] := T.F_year_drops.binds fun _ _ _ _ _ _ us hl => match us, hl with | [_], _ => rfl
theorem Txt.k_ring_needs (T : Txt K mg) : PySem.W.keepIn K (.ref T.a_ring_needs) = true := T.F_ring_needs.kp
theorem Txt.b_ring_needs (T : Txt K mg) : Binds K T.d_ring_needs P_ring_needs [] := T.F_ring_needs.binds fun _ _ _ _ _ _ us hl => match us, hl with | [_], _ => rfl
theorem Txt.k_given_by (T : Txt K mg) : PySem.W.keepIn K (.ref T.a_given_by) = true := T.F_given_by.kp
theorem Txt.b_given_by (T : Txt K mg) : Binds K T.d_given_by P_given_by [] := T.F_given_by.binds fun _ _ _ _ _ _ us hl => match us, hl with | [_, _], _ => rfl
theorem Txt.k_open_from (T : Txt K mg) : PySem.W.keepIn K (.ref T.a_open_from) = true := T.F_open_from.kp
theorem Txt.b_open_from (T : Txt K mg) : Binds K T.d_open_from P_open_from [] := T.F_open_from.binds fun _ _ _ _ _ _ us hl => match us, hl with | [_, _], _ => rfl
theorem Txt.k_day_of (T : Txt K mg) : PySem.W.keepIn K (.ref T.a_day_of) = true := T.F_day_of.kp
theorem Txt.b_day_of (T : Txt K mg) : Binds K T.d_day_of P_day_of [] := T.F_day_of.binds fun _ _ _ _ _ _ us hl => match us, hl with | [_, _], _ => rfl
theorem Txt.k_line_of (T : Txt K mg) : PySem.W.keepIn K (.ref T.a_line_of) = true := T.F_line_of.kp
theorem Txt.b_line_of (T : Txt K mg) : Binds K T.d_line_of P_line_of [] := T.F_line_of.binds fun _ _ _ _ _ _ us hl => match us, hl with | [_, _], _ => rfl
theorem Txt.k_given_next (T : Txt K mg) : PySem.W.keepIn K (.ref T.a_given_next) = true := T.F_given_next.kp
theorem Txt.b_given_next (T : Txt K mg) : Binds K T.d_given_next P_given_next [] := T.F_given_next.binds fun _ _ _ _ _ _ us hl => match us, hl with | [_, _], _ => rfl
theorem Txt.k_stretches (T : Txt K mg) : PySem.W.keepIn K (.ref T.a_stretches) = true := T.F_stretches.kp
theorem Txt.b_stretches (T : Txt K mg) : Binds K T.d_stretches P_stretches [] := T.F_stretches.binds fun _ _ _ _ _ _ us hl => match us, hl with | [_], _ => rfl
theorem Txt.k_lost_at (T : Txt K mg) : PySem.W.keepIn K (.ref T.a_lost_at) = true := T.F_lost_at.kp
theorem Txt.b_lost_at (T : Txt K mg) : Binds K T.d_lost_at P_lost_at [] := T.F_lost_at.binds fun _ _ _ _ _ _ us hl => match us, hl with | [_, _], _ => rfl
theorem Txt.k_needed (T : Txt K mg) : PySem.W.keepIn K (.ref T.a_needed) = true := T.F_needed.kp
theorem Txt.b_needed (T : Txt K mg) : Binds K T.d_needed P_needed [] := T.F_needed.binds fun _ _ _ _ _ _ us hl => match us, hl with | [_, _, _], _ => rfl
theorem Txt.k_common (T : Txt K mg) : PySem.W.keepIn K (.ref T.a_common) = true := T.F_common.kp
theorem Txt.b_common (T : Txt K mg) : Binds K T.d_common P_common [] := T.F_common.binds fun _ _ _ _ _ _ us hl => match us, hl with | [_], _ => rfl
theorem Txt.k_unmet (T : Txt K mg) : PySem.W.keepIn K (.ref T.a_unmet) = true := T.F_unmet.kp
theorem Txt.b_unmet (T : Txt K mg) : Binds K T.d_unmet P_unmet [] := T.F_unmet.binds fun _ _ _ _ _ _ us hl => match us, hl with | [_, _], _ => rfl
theorem Txt.k_sparing (T : Txt K mg) : PySem.W.keepIn K (.ref T.a_sparing) = true := T.F_sparing.kp
theorem Txt.b_sparing (T : Txt K mg) : Binds K T.d_sparing P_sparing [] := T.F_sparing.binds fun _ _ _ _ _ _ us hl => match us, hl with | [_, _], _ => rfl
theorem Txt.k_spares (T : Txt K mg) : PySem.W.keepIn K (.ref T.a_spares) = true := T.F_spares.kp
theorem Txt.b_spares (T : Txt K mg) : Binds K T.d_spares P_spares [] := T.F_spares.binds fun _ _ _ _ _ _ us hl => match us, hl with | [_], _ => rfl
theorem Txt.k_lost_in_all (T : Txt K mg) : PySem.W.keepIn K (.ref T.a_lost_in_all) = true := T.F_lost_in_all.kp
theorem Txt.b_lost_in_all (T : Txt K mg) : Binds K T.d_lost_in_all P_lost_in_all [] := T.F_lost_in_all.binds fun _ _ _ _ _ _ us hl => match us, hl with | [_, _], _ => rfl
theorem Txt.k_gone_back (T : Txt K mg) : PySem.W.keepIn K (.ref T.a_gone_back) = true := T.F_gone_back.kp
theorem Txt.b_gone_back (T : Txt K mg) : Binds K T.d_gone_back P_gone_back [] := T.F_gone_back.binds fun _ _ _ _ _ _ us hl => match us, hl with | [_, _, _], _ => rfl
theorem Txt.k_least_steps (T : Txt K mg) : PySem.W.keepIn K (.ref T.a_least_steps) = true := T.F_least_steps.kp
theorem Txt.b_least_steps (T : Txt K mg) : Binds K T.d_least_steps P_least_steps [] := T.F_least_steps.binds fun _ _ _ _ _ _ us hl => match us, hl with | [_, _, _, _], _ => rfl
theorem Txt.k_loss_turn (T : Txt K mg) : PySem.W.keepIn K (.ref T.a_loss_turn) = true := T.F_loss_turn.kp
theorem Txt.b_loss_turn (T : Txt K mg) : Binds K T.d_loss_turn P_loss_turn [] := T.F_loss_turn.binds fun _ _ _ _ _ _ us hl => match us, hl with | [_, _, _, _], _ => rfl
theorem Txt.k_mark_behind (T : Txt K mg) : PySem.W.keepIn K (.ref T.a_mark_behind) = true := T.F_mark_behind.kp
theorem Txt.b_mark_behind (T : Txt K mg) : Binds K T.d_mark_behind P_mark_behind [] := T.F_mark_behind.binds fun _ _ _ _ _ _ us hl => match us, hl with | [_, _, _], _ => rfl
theorem Txt.k_way_of (T : Txt K mg) : PySem.W.keepIn K (.ref T.a_way_of) = true := T.F_way_of.kp
theorem Txt.b_way_of (T : Txt K mg) : Binds K T.d_way_of P_way_of [] := T.F_way_of.binds fun _ _ _ _ _ _ us hl => match us, hl with | [_, _, _], _ => rfl
theorem Txt.k_round_of (T : Txt K mg) : PySem.W.keepIn K (.ref T.a_round_of) = true := T.F_round_of.kp
theorem Txt.b_round_of (T : Txt K mg) : Binds K T.d_round_of P_round_of [] := T.F_round_of.binds fun _ _ _ _ _ _ us hl => match us, hl with | [_], _ => rfl
theorem Txt.k_mark_at (T : Txt K mg) : PySem.W.keepIn K (.ref T.a_mark_at) = true := T.F_mark_at.kp
theorem Txt.b_mark_at (T : Txt K mg) : Binds K T.d_mark_at P_mark_at [] := T.F_mark_at.binds fun _ _ _ _ _ _ us hl => match us, hl with | [_, _], _ => rfl
theorem Txt.k_state_behind (T : Txt K mg) : PySem.W.keepIn K (.ref T.a_state_behind) = true := T.F_state_behind.kp
theorem Txt.b_state_behind (T : Txt K mg) : Binds K T.d_state_behind P_state_behind [] := T.F_state_behind.binds fun _ _ _ _ _ _ us hl => match us, hl with | [_, _, _, _], _ => rfl
theorem Txt.k_told_loss (T : Txt K mg) : PySem.W.keepIn K (.ref T.a_told_loss) = true := T.F_told_loss.kp
theorem Txt.b_told_loss (T : Txt K mg) : Binds K T.d_told_loss P_told_loss [] := T.F_told_loss.binds fun _ _ _ _ _ _ us hl => match us, hl with | [_, _, _, _], _ => rfl
theorem Txt.k_next_loss (T : Txt K mg) : PySem.W.keepIn K (.ref T.a_next_loss) = true := T.F_next_loss.kp
theorem Txt.b_next_loss (T : Txt K mg) : Binds K T.d_next_loss P_next_loss [] := T.F_next_loss.binds fun _ _ _ _ _ _ us hl => match us, hl with | [_, _], _ => rfl
theorem Txt.k_losses (T : Txt K mg) : PySem.W.keepIn K (.ref T.a_losses) = true := T.F_losses.kp
theorem Txt.b_losses (T : Txt K mg) : Binds K T.d_losses P_losses [] := T.F_losses.binds fun _ _ _ _ _ _ us hl => match us, hl with | [_, _, _], _ => rfl
theorem Txt.k_paper (T : Txt K mg) : PySem.W.keepIn K (.ref T.a_paper) = true := T.F_paper.kp
theorem Txt.b_paper (T : Txt K mg) : Binds K T.d_paper P_paper [] := T.F_paper.binds fun _ _ _ _ _ _ us hl => match us, hl with | [_], _ => rfl
theorem Txt.k_shows_sparing (T : Txt K mg) : PySem.W.keepIn K (.ref T.a_shows_sparing) = true := T.F_shows_sparing.kp
theorem Txt.b_shows_sparing (T : Txt K mg) : Binds K T.d_shows_sparing P_shows_sparing [] := T.F_shows_sparing.binds fun _ _ _ _ _ _ us hl => match us, hl with | [_, _], _ => rfl
theorem Txt.k_is_row (T : Txt K mg) : PySem.W.keepIn K (.ref T.a_is_row) = true := T.F_is_row.kp
theorem Txt.b_is_row (T : Txt K mg) : Binds K T.d_is_row P_is_row [] := T.F_is_row.binds fun _ _ _ _ _ _ us hl => match us, hl with | [_, _, _], _ => rfl
theorem Txt.k_shows_spilling (T : Txt K mg) : PySem.W.keepIn K (.ref T.a_shows_spilling) = true := T.F_shows_spilling.kp
theorem Txt.b_shows_spilling (T : Txt K mg) : Binds K T.d_shows_spilling P_shows_spilling [] := T.F_shows_spilling.binds fun _ _ _ _ _ _ us hl => match us, hl with | [_, _], _ => rfl
theorem Txt.k_shows_paper (T : Txt K mg) : PySem.W.keepIn K (.ref T.a_shows_paper) = true := T.F_shows_paper.kp
theorem Txt.b_shows_paper (T : Txt K mg) : Binds K T.d_shows_paper P_shows_paper [] := T.F_shows_paper.binds fun _ _ _ _ _ _ us hl => match us, hl with | [_, _], _ => rfl
theorem Txt.k__law_box (T : Txt K mg) : PySem.W.keepIn K (.ref T.a__law_box) = true := T.F__law_box.kp
theorem Txt.b__law_box (T : Txt K mg) : Binds K T.d__law_box P__law_box [] := T.F__law_box.binds fun _ _ _ _ _ _ us hl => match us, hl with | [_, _], _ => rfl
theorem Txt.k__law_take (T : Txt K mg) : PySem.W.keepIn K (.ref T.a__law_take) = true := T.F__law_take.kp
theorem Txt.b__law_take (T : Txt K mg) : Binds K T.d__law_take P__law_take [] := T.F__law_take.binds fun _ _ _ _ _ _ us hl => match us, hl with | [_, _], _ => rfl
theorem Txt.k__law_folded (T : Txt K mg) : PySem.W.keepIn K (.ref T.a__law_folded) = true := T.F__law_folded.kp
theorem Txt.b__law_folded (T : Txt K mg) : Binds K T.d__law_folded P__law_folded [] := T.F__law_folded.binds fun _ _ _ _ _ _ us hl => match us, hl with | [_, _], _ => rfl
theorem Txt.k__law_of (T : Txt K mg) : PySem.W.keepIn K (.ref T.a__law_of) = true := T.F__law_of.kp
theorem Txt.b__law_of (T : Txt K mg) : Binds K T.d__law_of P__law_of [] := T.F__law_of.binds fun _ _ _ _ _ _ us hl => match us, hl with | [_, _], _ => rfl
theorem Txt.k__law_whole (T : Txt K mg) : PySem.W.keepIn K (.ref T.a__law_whole) = true := T.F__law_whole.kp
theorem Txt.b__law_whole (T : Txt K mg) : Binds K T.d__law_whole P__law_whole [] := T.F__law_whole.binds fun _ _ _ _ _ _ us hl => match us, hl with | [_], _ => rfl
theorem Txt.k__law_nest (T : Txt K mg) : PySem.W.keepIn K (.ref T.a__law_nest) = true := T.F__law_nest.kp
theorem Txt.b__law_nest (T : Txt K mg) : Binds K T.d__law_nest P__law_nest [] := T.F__law_nest.binds fun _ _ _ _ _ _ us hl => match us, hl with | [_, _, _, _], _ => rfl
theorem Txt.k__law_wide (T : Txt K mg) : PySem.W.keepIn K (.ref T.a__law_wide) = true := T.F__law_wide.kp
theorem Txt.b__law_wide (T : Txt K mg) : Binds K T.d__law_wide P__law_wide [] := T.F__law_wide.binds fun _ _ _ _ _ _ us hl => match us, hl with | [_], _ => rfl
theorem Txt.k__law_now (T : Txt K mg) : PySem.W.keepIn K (.ref T.a__law_now) = true := T.F__law_now.kp
theorem Txt.b__law_now (T : Txt K mg) : Binds K T.d__law_now P__law_now [] := T.F__law_now.binds fun _ _ _ _ _ _ us hl => match us, hl with | [_, _], _ => rfl
theorem Txt.k__law_given (T : Txt K mg) : PySem.W.keepIn K (.ref T.a__law_given) = true := T.F__law_given.kp
theorem Txt.b__law_given (T : Txt K mg) : Binds K T.d__law_given P__law_given [] := T.F__law_given.binds fun _ _ _ _ _ _ us hl => match us, hl with | [_, _], _ => rfl
theorem Txt.k__law_common_nest (T : Txt K mg) : PySem.W.keepIn K (.ref T.a__law_common_nest) = true := T.F__law_common_nest.kp
theorem Txt.b__law_common_nest (T : Txt K mg) : Binds K T.d__law_common_nest P__law_common_nest [] := T.F__law_common_nest.binds fun _ _ _ _ _ _ us hl => match us, hl with | [_], _ => rfl
theorem Txt.k__law_of_class (T : Txt K mg) : PySem.W.keepIn K (.ref T.a__law_of_class) = true := T.F__law_of_class.kp
theorem Txt.b__law_of_class (T : Txt K mg) : Binds K T.d__law_of_class P__law_of_class [] := T.F__law_of_class.binds fun _ _ _ _ _ _ us hl => match us, hl with | [_, _, _], _ => rfl
theorem Txt.k__law_sparing_right (T : Txt K mg) : PySem.W.keepIn K (.ref T.a__law_sparing_right) = true := T.F__law_sparing_right.kp
theorem Txt.b__law_sparing_right (T : Txt K mg) : Binds K T.d__law_sparing_right P__law_sparing_right [] := T.F__law_sparing_right.binds fun _ _ _ _ _ _ us hl => match us, hl with | [_, _], _ => rfl
theorem Txt.k__law_right (T : Txt K mg) : PySem.W.keepIn K (.ref T.a__law_right) = true := T.F__law_right.kp
theorem Txt.b__law_right (T : Txt K mg) : Binds K T.d__law_right P__law_right [] := T.F__law_right.binds fun _ _ _ _ _ _ us hl => match us, hl with | [_], _ => rfl
theorem Txt.k_law (T : Txt K mg) : PySem.W.keepIn K (.ref T.a_law) = true := T.F_law.kp
theorem Txt.b_law (T : Txt K mg) : Binds K T.d_law P_law [] := T.F_law.binds fun _ _ _ _ _ _ us hl => match us, hl with | [_], _ => rfl
end

end Z64
set_option Elab.async false
set_option linter.all false
set_option maxRecDepth 100000
set_option maxHeartbeats 4000000
namespace Z64
open PySem PySem.Spec PyProof.Rows L2 Hz
section
variable {P : Program} {w : World} {K : PySem.W.Frag} {mg : Str → Option Value} {base : Heap}
local macro_rules | `(tactic| walk_at "go") => `(tactic| repeat (first | refine ⟨_, rfl, ?_⟩ | refine ⟨_, _, rfl, rfl, ?_⟩ | refine ⟨_, _, rfl, .inl (by assumption), ?_⟩ | refine ⟨(by show (0 : Int) < _; first | decide | omega), ?_⟩ | refine ⟨(by first | exact Or.inl ⟨by decide, by decide⟩ | exact Or.inr ⟨by decide, by decide⟩ | exact Or.inl ⟨by omega, by omega⟩ | exact Or.inr ⟨by omega, by omega⟩), ?_⟩ | refine ⟨divw_of (by decide) (by decide), ?_⟩ | refine ⟨⟨by decide, by decide, by decide⟩, ?_⟩ | refine Or.inr ⟨_, rfl, ?_⟩ | refine z_ixL (by assumption) rfl ?_ | refine z_ixL upd_same rfl ?_ | refine ⟨_, _, _, _, rfl, rfl, by assumption, rfl, ?_⟩))
/-- a new box -/
def spBox (K : PySem.W.Frag) : Sp := fun vs H Q _ => ∃ (a : Addr) (ns : List Int) (k : Nat), vs = [.ref a, .int k] ∧ SqL K H a (ns.map V.int) ∧ k < 64 ∧
  ∀ p H', H p = none → Ex [] H H' → Bx p 0 H' → Q (.ref p) H'
theorem ok_box (T : Txt K mg) : FnOk P w K mg base CX0 1 T.a__law_box T.d__law_box P__law_box (spBox K) := by
  have nd := sc__law_box.nd
  refine T.F__law_box.ok sc__law_box (fun vs H Q E h => ?_) (fun cdv A outer s H vs Q E hr h => ?_)
  · obtain ⟨a, ns, k, rfl, _⟩ := h
    rfl
  · obtain ⟨a, ns, k, rfl, hS, hk, q⟩ := h
    refine ⟨_, (pss_cons (ps_set (i := 2) nd rfl (Or.inl rfl) (pe_ifExp (pt_cmpR op_lt (pv 1) (pe_callB (lenK K) (by rfl) T.z_len (by decide +kernel) (pa_cons (pv 0) pa_nil)) (nomark _)) (pe_ix (ixK K) (pv 0) (pv 1) (fun _ _ => rfl)) pe_int))
      (pss_one (ps_ret (pe_lst (pa_cons (pe_op op_mul (pe_callB call_abs (by rfl) T.z_abs (by decide +kernel) (pa_cons (pv 2) pa_nil)) (pe_callTy call_int1 (by rfl) T.z_int (by decide +kernel) (pa_cons (pe_cmpR op_ge (pe_callB call_abs (by rfl) T.z_abs (by decide +kernel) (pa_cons (pv 2) pa_nil)) (pe_op op_pow pe_int pe_int) (nomark _)) pa_nil))) (pa_cons (pe_op op_mod (pe_op op_mul (pe_op op_add (pe_op op_add (pe_op op_mod (pv 2) pe_int) (pe_op op_mul pe_int (pv 1))) pe_int) pe_int) pe_int) (pa_cons pe_int pa_nil))))))), ?_⟩
    have fin : ∀ (c : Int) (b : Bool) (p : Addr), H p = none → Q (.ref p) (upd H p (.lst [.int ((if c < 0 then -c else c) * (if b = true then 1 else 0)), .int ((c % 2147483629 + 15485863 * k + 43) * 48271 % 2147483647), .int 0])) := fun c b p hp => by
      refine q p _ hp (Ex.new hp) ⟨_, _, _, upd_same, ?_, by omega, by omega, by omega, by omega⟩
      cases b <;> simp <;> split <;> omega
    walk_at "go"
    refine ite2 (fun c => ?_) (fun c => ?_)
    · have c' : k < ns.length := by
        have := of_decide_eq_true c
        rw [List.length_map] at this
        omega
      walk_at "go"
      refine z_ix (.inl hS) (v := .int ns[k]) (atI_nat (by rw [List.getElem?_map, List.getElem?_eq_getElem c'] <;> rfl)) ?_
      walk_at "go"
      exact ⟨(by show 3 ≤ sizeLine; decide), fun p hp => fin _ _ p hp⟩
    · walk_at "go"
      exact ⟨(by show 3 ≤ sizeLine; decide), fun p hp => fin 0 _ p hp⟩
/-- a number below size out of the box -/
def spTake (N : Nat) : Sp := fun vs H Q _ => ∃ (b : Addr) (size : Int) (n : Nat), vs = [.ref b, .int size] ∧ Bx b n H ∧ n + 2 ^ (N + 1) ≤ 2 ^ 40 ∧ 1 ≤ size ∧ size ≤ (10 ^ 7) ^ (N + 1) ∧ N ≤ 5 ∧
  ∀ r H', 0 ≤ r → r < size → Ex [b] H H' → Bx b (n + 2 ^ N) H' → Q (.int r) H'
theorem ok_take_one (T : Txt K mg) (N : Nat) (sp' : Sp) (G__law_take : FnOk P w K mg base CX0 N T.a__law_take T.d__law_take P__law_take sp') (hsp : N = 0 ∨ ∃ M, N = M + 1 ∧ sp' = spTake M) :
    FnOk P w K mg base CX0 (N + 1) T.a__law_take T.d__law_take P__law_take (spTake N) := by
  have nd := sc__law_take.nd
  refine T.F__law_take.ok sc__law_take (fun vs H Q E h => ?_) (fun cdv A outer s H vs Q E hr h => ?_)
  · obtain ⟨b, size, n, rfl, _⟩ := h
    rfl
  · obtain ⟨b, size, n, rfl, hB, hn, h1, h2, hN, q⟩ := h
    have hr__law_take := hr
    have h60 : size ≤ 10 ^ 60 := by
      have e : ((10 : Int) ^ 7) ^ (N + 1) ≤ 10 ^ 60 := by
        have : N = 0 ∨ N = 1 ∨ N = 2 ∨ N = 3 ∨ N = 4 ∨ N = 5 := by omega
        rcases this with rfl | rfl | rfl | rfl | rfl | rfl <;> decide
      omega
    have hp1 : 1 ≤ 2 ^ N := Nat.one_le_two_pow
    have hB0 := hB
    obtain ⟨x, y, c, hb, hx, hy0, hy1, hc0, hc1⟩ := hB
    refine ⟨_, (pss_cons (ps_if (pt_cmpR op_gt (pe_ix (ixK K) (pv 0) pe_int (fun _ _ => rfl)) pe_int (nomark _)) (pss_cons (ps_asg (pe_callB call_divmodW (by rfl) T.z_divmod (by decide +kernel) (pa_cons (pe_ix (ixK K) (pv 0) pe_int (fun _ _ => rfl)) (pa_cons (pv 1) pa_nil))) (pg_tupK K 2 (by rfl) (pgs_cons (pg_sub (pv 0) pe_int set_list) (pgs_cons (pg_name (i := 2) nd rfl (Or.inl rfl)) pgs_nil))))
      (pss_one (ps_ret (pv 2)))) pss_nil)
      (pss_cons (ps_if (pt_cmpR op_gt (pv 1) (pe_op op_pow pe_int pe_int) (nomark _)) (pss_one (ps_ret (pe_op op_mod (pe_op op_add (pe_call G__law_take hr__law_take (by rfl) T.m__law_take T.k__law_take T.b__law_take .nil pass0 (pa_cons (pv 0) (pa_cons (pe_op op_pow pe_int pe_int) pa_nil))) (pe_op op_mul (pe_op op_pow pe_int pe_int) (pe_call G__law_take hr__law_take (by rfl) T.m__law_take T.k__law_take T.b__law_take .nil pass0 (pa_cons (pv 0) (pa_cons (pe_op op_add (pe_op op_fdivW (pe_op op_sub (pv 1) pe_int) (pe_op op_pow pe_int pe_int)) pe_int) pa_nil))))) (pv 1)))) pss_nil)
      (pss_cons (ps_asg (pe_op op_add (pe_ix (ixK K) (pv 0) pe_int (fun _ _ => rfl)) pe_int) (pg_sub (pv 0) pe_int set_list))
      (pss_cons (ps_set (i := 3) nd rfl (Or.inl rfl) (pe_op op_add pe_int (pe_op op_mul (pe_ix (ixK K) (pv 0) pe_int (fun _ _ => rfl)) (pe_ix (ixK K) (pv 0) pe_int (fun _ _ => rfl)))))
      (pss_cons (ps_set (i := 4) nd rfl (Or.inl rfl) (pe_op op_mod (pe_op op_mul (pe_op op_add (pe_ix (ixK K) (pv 0) pe_int (fun _ _ => rfl)) (pe_op op_mul pe_int (pe_ix (ixK K) (pv 0) pe_int (fun _ _ => rfl)))) (pv 3)) pe_int))
      (pss_cons (ps_set (i := 5) nd rfl (Or.inl rfl) (pe_op op_mod (pe_op op_add (pe_op op_mul (pv 4) (pe_op op_add (pe_op op_mod (pv 4) pe_int) pe_int)) (pe_ix (ixK K) (pv 0) pe_int (fun _ _ => rfl))) pe_int))
      (pss_one (ps_ret (pe_op op_mod (pe_op op_fdivW (pe_op op_mod (pe_op op_mul (pv 5) (pe_op op_add (pe_op op_mod (pv 5) pe_int) pe_int)) pe_int) pe_int) (pv 1)))))))))), ?_⟩
    walk_at "go"
    refine ite2 (fun c1 => ?_) (fun c1 => ?_)
    · have x0 : 0 < x := of_decide_eq_true c1
      walk_at "go"
      refine ⟨_, _, rfl, divp_of (by omega) h60, fun p hp => ?_⟩
      have hbp : b ≠ p := ne_of_none hb hp
      refine ⟨p, _, rfl, SqT.of upd_same, rfl, _, _, rfl, _, rfl, b, _, _, 0, rfl, rfl, (by rw [upd_ne hbp]; exact hb), rfl, ?_⟩
      refine ⟨_, _, rfl, rfl, ?_⟩
      walk_at "go"
      refine q _ _ (Int.emod_nonneg _ (by omega)) (Int.emod_lt_of_pos _ (by omega)) ((Ex.new hp).trans (Ex.mut (by simp))) ⟨_, _, _, upd_same, ?_, hy0, hy1, hc0, by omega⟩
      exact Int.ediv_nonneg hx (by omega)
    · have x0 : x = 0 := by
        have := of_decide_eq_false (Bool.eq_false_iff.mpr c1)
        omega
      walk_at "go"
      refine ite2 (fun c2 => ?_) (fun c2 => ?_)
      · have s7 : 10 ^ 7 < size := of_decide_eq_true c2
        rcases hsp with rfl | ⟨M, rfl, rfl⟩
        · exfalso
          have : size ≤ 10 ^ 7 := h2
          omega
        · have e2 : 2 ^ (M + 1) = 2 * 2 ^ M := by rw [Nat.pow_succ]; omega
          have e3 : 2 ^ (M + 1 + 1) = 4 * 2 ^ M := by rw [Nat.pow_succ, Nat.pow_succ]; omega
          have hM : 1 ≤ 2 ^ M := Nat.one_le_two_pow
          have big : (10 : Int) ^ 7 ≤ (10 ^ 7) ^ (M + 1) := by
            have : M = 0 ∨ M = 1 ∨ M = 2 ∨ M = 3 ∨ M = 4 := by omega
            rcases this with rfl | rfl | rfl | rfl | rfl <;> decide
          have e4 : ((10 : Int) ^ 7) ^ (M + 1 + 1) = (10 ^ 7) ^ (M + 1) * 10 ^ 7 := Int.pow_succ ..
          walk_at "go"
          refine ⟨b, _, n, rfl, hB0, by omega, (by decide), big, by omega, fun r1 H1 r10 r11 x1 B1 => ?_⟩
          walk_at "go"
          refine ⟨b, _, n + 2 ^ M, rfl, B1, by omega, ?_, ?_, by omega, fun r2 H2 r20 r21 x2 B2 => ?_⟩
          · have := Int.ediv_nonneg (show (0 : Int) ≤ size - 1 by omega) (show (0 : Int) ≤ 10 ^ Int.toNat 7 by decide)
            omega
          · have t7 : (10 : Int) ^ Int.toNat 7 = 10000000 := by decide
            have t8 : (10 : Int) ^ 7 = 10000000 := by decide
            rw [e4, t8] at h2
            rw [t7, t8]
            generalize ((10000000 : Int)) ^ (M + 1) = z at h2 ⊢
            omega
          walk_at "go"
          refine q _ _ (Int.emod_nonneg _ (by omega)) (Int.emod_lt_of_pos _ (by omega)) (x1.trans x2) (B2.mono (by omega))
      · have hn40 : n ≤ 1099511627776 := by omega
        walk_at "go"
        refine q _ _ (Int.emod_nonneg _ (by omega)) (Int.emod_lt_of_pos _ (by omega)) (Ex.mut (by simp)) ⟨_, _, _, upd_same, hx, hy0, hy1, by omega, by omega⟩
theorem ok_take (T : Txt K mg) : ∀ N, FnOk P w K mg base CX0 (N + 1) T.a__law_take T.d__law_take P__law_take (spTake N)
  | 0 => ok_take_one T 0 (fun _ _ _ _ => False) ⟨fun _ _ _ _ h => h.elim, fun _ _ _ _ _ _ _ _ _ _ _ _ _ h => h.elim⟩ (.inl rfl)
  | N + 1 => ok_take_one T (N + 1) (spTake N) (ok_take T N) (.inr ⟨N, rfl, rfl⟩)
def spT : Sp := fun vs H Q _ => ∃ (b : Addr) (size : Int) (n : Nat), vs = [.ref b, .int size] ∧ Bx b n H ∧ n ≤ 10 ^ 12 ∧ 1 ≤ size ∧ size ≤ 10 ^ 35 ∧
  ∀ r H', 0 ≤ r → r < size → Ex [b] H H' → Bx b (n + 16) H' → Q (.int r) H'
theorem ok_T (T : Txt K mg) : FnOk P w K mg base CX0 5 T.a__law_take T.d__law_take P__law_take spT := by
  refine fnOk_weak (ok_take T 4) fun vs H Q E h => ?_
  obtain ⟨b, size, n, rfl, hB, hn, h1, h2, q⟩ := h
  exact ⟨b, size, n, rfl, hB, (by have : n ≤ 1000000000000 := hn; omega), h1, h2, by decide, q⟩
/-- a number out of the box, of many figures -/
def spTb : Sp := fun vs H Q _ => ∃ (b : Addr) (size : Int) (n : Nat), vs = [.ref b, .int size] ∧ Bx b n H ∧ n ≤ 10 ^ 12 ∧ 1 ≤ size ∧ size ≤ 10 ^ 42 ∧
  ∀ r H', 0 ≤ r → r < size → Ex [b] H H' → Bx b (n + 32) H' → Q (.int r) H'
theorem ok_Tb (T : Txt K mg) : FnOk P w K mg base CX0 6 T.a__law_take T.d__law_take P__law_take spTb := by
  refine fnOk_weak (ok_take T 5) fun vs H Q E h => ?_
  obtain ⟨b, size, n, rfl, hB, hn, h1, h2, q⟩ := h
  exact ⟨b, size, n, rfl, hB, (by have : n ≤ 1000000000000 := hn; omega), h1, h2, Nat.le_refl _, q⟩
/-- one of some things -/
def spOf (K : PySem.W.Frag) : Sp := fun vs H Q _ => ∃ (b a : Addr) (xs : List V) (n : Nat), vs = [.ref b, .ref a] ∧ Bx b n H ∧ n ≤ 10 ^ 12 ∧ Sq K (wo [b] H) a xs ∧ 1 ≤ xs.length ∧ xs.length ≤ 1000 ∧
  ∀ v H', v ∈ xs → Ex [b] H H' → Bx b (n + 16) H' → Q v H'
theorem ok_of (T : Txt K mg) : FnOk P w K mg base CX0 6 T.a__law_of T.d__law_of P__law_of (spOf K) := by
  have nd := sc__law_of.nd
  have G__law_take := ok_T (P := P) (w := w) (base := base) T
  refine T.F__law_of.ok sc__law_of (fun vs H Q E h => ?_) (fun cdv A outer s H vs Q E hr h => ?_)
  · obtain ⟨b, a, xs, n, rfl, _⟩ := h
    rfl
  · obtain ⟨b, a, xs, n, rfl, hB, hn, hS, l1, l2, q⟩ := h
    have hr__law_take := hr
    refine ⟨_, (pss_one (ps_ret (pe_ix (ixK K) (pv 1) (pe_call G__law_take hr__law_take (by rfl) T.m__law_take T.k__law_take T.b__law_take .nil pass0 (pa_cons (pv 0) (pa_cons (pe_callB (lenK K) (by rfl) T.z_len (by decide +kernel) (pa_cons (pv 1) pa_nil)) pa_nil))) (fun _ _ => rfl)))), ?_⟩
    have hS' : Sq K H a xs := le_s (wo_le _ _) hS
    refine ⟨_, rfl, _, rfl, _, rfl, _, _, rfl, hS', b, _, n, rfl, hB, hn, by omega, by omega, fun r H' r0 r1 e1 B1 => ?_⟩
    have hr' : r.toNat < xs.length := by omega
    have hS1 : Sq K H' a xs := le_s (wo_le _ _) (le_s e1.le hS)
    have er : r = ((r.toNat : Nat) : Int) := by omega
    have ea : atI xs ((r.toNat : Nat) : Int) = some xs[r.toNat] := atI_nat (List.getElem?_eq_getElem hr')
    rw [← er] at ea
    exact z_ix hS1 ea (q _ H' (List.getElem_mem _) e1 B1)
/-- the script's numbers, folded -/
def spFolded (K : PySem.W.Frag) : Sp := fun vs H Q _ => ∃ (a : Addr) (ns : List Int) (sz : Nat), vs = [.ref a, .int sz] ∧ SqL K H a (ns.map V.int) ∧ ns.length ≤ 63 ∧ 1 ≤ sz ∧ sz ≤ 3 ∧
  ∀ p H' (ms : List Int), H p = none → Ex [] H H' → H' p = some (.lst (ms.map V.int)) → ms.length ≤ sz → Q (.ref p) H'
theorem ok_folded (T : Txt K mg) : FnOk P w K mg base CX0 1 T.a__law_folded T.d__law_folded P__law_folded (spFolded K) := by
  have nd := sc__law_folded.nd
  refine T.F__law_folded.ok sc__law_folded (fun vs H Q E h => ?_) (fun cdv A outer s H vs Q E hr h => ?_)
  · obtain ⟨a, ns, sz, rfl, _⟩ := h
    rfl
  · obtain ⟨a, ns, sz, rfl, hS, l63, s1, s3, q⟩ := h
    refine ⟨_, (pss_cons (ps_set (i := 2) nd rfl (Or.inl rfl) (pe_callTy (listK K) (by rfl) T.z_list (by decide +kernel) (pa_cons (pe_slice (slK K) (pv 0) po_none (po_some (pv 1))) pa_nil)))
      (pss_cons (ps_for PassesOwn.never rfl (pi_enum (by rfl) T.z_enumerate (pa_cons (pe_slice (slK K) (pv 0) (po_some (pv 1)) (po_some pe_int)) pa_nil)) (pg_tupK K 2 (by rfl) (pgs_cons (pg_name (i := 3) nd rfl (Or.inl rfl)) (pgs_cons (pg_name (i := 4) nd rfl (Or.inl rfl)) pgs_nil))) (pss_one (ps_asg (pe_op op_add (pe_ix (ixK K) (pv 2) (pe_op op_mod (pv 3) (pv 1)) (fun _ _ => rfl)) (pe_op op_mul (pv 4) (pe_op op_add (pv 3) pe_int))) (pg_sub (pv 2) (pe_op op_mod (pv 3) (pv 1)) set_list))))
      (pss_one (ps_ret (pv 2))))), ?_⟩
    -- cells = list(script[:size])
    refine ⟨_, rfl, _, rfl, _, rfl, .inl ⟨_, _, rfl, hS, fun p1 hp1 => ⟨p1, _, rfl, .inl (SqL.of upd_same), fun l hl => ?_⟩⟩⟩
    rw [cut_head] at hl ⊢
    have n1 : l ≠ p1 := fun z => by rw [z, upd_same] at hl; cases hl
    have hl0 : H l = none := by rw [upd_ne n1] at hl; exact hl
    have x2 : Ex [] H (upd (upd H p1 (.lst ((ns.map V.int).take sz))) l (.lst ((ns.map V.int).take sz))) := (Ex.new hp1).mutNew' hl0
    refine ⟨_, rfl, _, rfl, _, rfl, _, rfl, .inl ⟨_, _, rfl, le_l x2.le0 hS, fun p3 hp3 => ⟨p3, _, rfl, SqL.of upd_same, ?_⟩⟩⟩
    rw [show (63 : Int) = ((63 : Nat) : Int) from rfl, cut_mid _ _ _ (by rw [List.length_map]; exact l63)]
    have n3 : p3 ≠ l := fun z => by rw [z, upd_same] at hp3; cases hp3
    have x3 := x2.trans (Ex.new (o := HO.lst ((ns.map V.int).drop sz)) hp3)
    rw [← List.map_drop] at x3 ⊢
    refine for_enum (xs := (ns.drop sz).map V.int) (fun i σ H3 => ∃ (ms : List Int) (y3 y4 : Option V), σ = [some (.ref a), some (.int sz), some (.ref l), y3, y4] ∧ ms.length = (ns.take sz).length ∧ H3 l = some (.lst (ms.map V.int)) ∧ H3 p3 = some (.lst ((ns.drop sz).map V.int)) ∧ Ex [] H H3)
      ⟨ns.take sz, none, none, rfl, rfl, ?_, upd_same, x3⟩ (fun i σ H3 _ ⟨_, _, _, _, _, _, h, _⟩ => SqL.of h) (fun i x T0 σ H3 hx ⟨ms, y3, y4, eσ, lm, hl3, hp3', x4⟩ hT => ?_) (fun σ H3 ⟨ms, y3, y4, eσ, lm, hl3, hp3', x4⟩ => ?_)
    · rw [upd_ne n3.symm, upd_same, List.map_take]
    · subst eσ
      obtain ⟨hi, ex⟩ := List.getElem?_eq_some_iff.mp hx
      rw [List.length_map, List.length_drop] at hi
      rw [List.getElem_map] at ex
      have lm2 : ms.length = sz := by rw [lm, List.length_take]; omega
      have nT : l ≠ T0 := ne_of_none hl3 hT
      have nT3 : p3 ≠ T0 := ne_of_none hp3' hT
      have hj : i % sz < ms.length := by rw [lm2]; exact Nat.mod_lt _ (by omega)
      have ej : ((i : Int) % (sz : Int)) = ((i % sz : Nat) : Int) := (Int.natCast_emod i sz).symm
      refine ⟨T0, _, rfl, SqT.of upd_same, rfl, _, _, rfl, _, _, rfl, rfl, ?_⟩
      refine ⟨_, rfl, _, rfl, _, rfl, _, _, rfl, rfl, (by show (0 : Int) < sz; omega), ?_⟩
      have hx2 : ∀ h : SqL K (upd H3 T0 (.tup [.int (i : Nat), x])) l (ms.map V.int), True := fun _ => trivial
      refine z_ix (.inl (SqL.of (by rw [upd_ne nT]; exact hl3))) (v := .int ms[i % sz]) (by show atI _ ((i : Int) % (sz : Int)) = _; rw [ej]; exact atI_nat (get_ints hj)) ?_
      rw [← ex]
      refine ⟨_, rfl, _, rfl, _, _, rfl, rfl, _, _, rfl, rfl, .inr ⟨by omega, by omega⟩, ?_⟩
      refine ⟨_, _, rfl, rfl, ?_⟩
      refine ⟨_, rfl, _, rfl, _, rfl, _, _, rfl, rfl, (by show (0 : Int) < sz; omega), ?_⟩
      refine ⟨l, _, _, i % sz, rfl, rfl, (by rw [upd_ne nT]; exact hl3), ?_, ?_⟩
      · show ixN _ ((i : Int) % (sz : Int)) = _
        rw [ej]
        exact ixN_nat (by rw [List.length_map]; exact hj)
      · refine ⟨_, _, _, rfl, ?_, by rw [upd_same, set_ints], ?_, (x4.trans (Ex.new hT)).mutNew' hl0⟩
        · rw [List.length_set]; exact lm
        · have n5 : p3 ≠ l := n3
          rw [upd_ne n5, upd_ne nT3]
          exact hp3'
    · subst eσ
      exact ⟨_, rfl, q l H3 ms hl0 x4 hl3 (by rw [lm, List.length_take]; omega)⟩
end
end Z64
set_option Elab.async false
set_option linter.all false
set_option maxRecDepth 100000
set_option maxHeartbeats 4000000
namespace Z64
open PySem PySem.Spec PyProof.Rows L2 Hz
section
variable {P : Program} {w : World} {K : PySem.W.Frag} {mg : Str → Option Value} {base : Heap}
local macro_rules | `(tactic| walk_at "go") => `(tactic| repeat (first | refine ⟨_, rfl, ?_⟩ | refine ⟨_, _, rfl, rfl, ?_⟩ | refine ⟨_, _, rfl, .inl (by assumption), ?_⟩ | refine ⟨(by show (0 : Int) < _; first | decide | omega), ?_⟩ | refine ⟨(by first | exact Or.inl ⟨by decide, by decide⟩ | exact Or.inr ⟨by decide, by decide⟩ | exact Or.inl ⟨by omega, by omega⟩ | exact Or.inr ⟨by omega, by omega⟩), ?_⟩ | refine ⟨divw_of (by decide) (by decide), ?_⟩ | refine ⟨⟨by decide, by decide, by decide⟩, ?_⟩ | refine Or.inr ⟨_, rfl, ?_⟩ | refine z_ixL (by assumption) rfl ?_ | refine z_ixL upd_same rfl ?_ | refine ⟨_, _, _, _, rfl, rfl, by assumption, rfl, ?_⟩))
/-- a hill that the laws draw, handed in by tuples or by lists -/
structure HillOk (h : Hill) : Prop where
  y1 : 1 ≤ h.year.length
  y2 : h.year.length ≤ 20
  d0 : ∀ d, d ∈ h.year → 0 ≤ d.1 ∧ d.1 ≤ 10 ^ 12
  op : ∃ d, d ∈ h.year ∧ d.2 = true
  dr : 0 < h.drops
  n1 : 1 ≤ h.needs.length
  n2 : h.needs.length ≤ 20
  n0 : ∀ m, m ∈ h.needs → 1 ≤ m ∧ m ≤ 10 ^ 14
  m0 : 0 ≤ h.most
  m1 : h.most ≤ 10 ^ 14
def spHill (K : PySem.W.Frag) (f : Hill → V) : Sp := fun vs H Q _ => ∃ (t : Bool) (h : Hill) (v : V), vs = [v] ∧ Dp K H v (h.dat t) ∧ HillOk h ∧ ∀ H', Ex [] H H' → Q (f h) H'
theorem ok_year_drops (T : Txt K mg) : FnOk P w K mg base CX0 1 T.a_year_drops T.d_year_drops P_year_drops (spHill K fun h => .int h.drops) := by
  have nd := sc_year_drops.nd
  refine T.F_year_drops.ok sc_year_drops (fun vs H Q E h => ?_) (fun cdv A outer s H vs Q E hr h => ?_)
  · obtain ⟨t, h, v, rfl, _⟩ := h
    rfl
  · obtain ⟨t, h, v, rfl, hD, hk, q⟩ := h
    have hl := hk.y2
    refine ⟨_, (pss_one (ps_ret (pe_callB (sumK K) (by rfl) T.z_sum (by decide +kernel) (pa_cons (pe_lc (own := [("day", 1)]) (by rfl) nd (pi_seqK K (pe_ix (ixK K) (pv 0) pe_int (fun _ _ => rfl))) (blkOk_by (N := N_year_drops) (own := [("day", 1)]) (sc := defScope s_year_drops) (by decide +kernel)) (fun _ _ _ _ _ => pg_name (i := 1) nd rfl (Or.inl rfl)) (fun _ _ _ _ _ => pts_nil) (fun _ _ _ _ _ => (pe_ix (ixK K) (pv 1) pe_int (fun _ _ => rfl)))) pa_nil)))), ?_⟩
    obtain ⟨a, xs, rfl, hS, hA⟩ := dp_sq hD
    obtain ⟨yv, hy, hyD⟩ := dpa_get hA (i := 0) rfl
    obtain ⟨ya, ys, rfl, hyS, hyA⟩ := dp_sq hyD
    have ly := dpa_len hyA
    rw [List.length_map] at ly
    dsimp only [tRet, tCB, tCons]
    refine z_lcS (B := []) (C := []) (t := t) (xs := ys) (fun R r => ⟨_, rfl, z_ix hS.sq (v := .ref ya) (i := 0) (atI_nat hy) (r ya H (Ex.refl _ _) (by rw [wo_nil]; exact hyS))⟩)
      (fun i v _ => ∃ d, h.year[i]? = some d ∧ v = .int d.1) (fun _ _ => True) (fun H1 x1 => ⟨lcOk0 (by omega), fun i x _ hx D H' hD' nB e1 _ tD N hN => ?_, fun D zs H' hD' hz lz rz e1 _ => ?_⟩)
    · obtain ⟨d, hd, hdD⟩ := dpa_get' hyA hx
      rw [List.getElem?_map] at hd
      obtain ⟨d0, hd0, rfl⟩ := Option.map_eq_some_iff.mp hd
      refine ⟨rfl, _, rfl, ?_⟩
      refine z_ixD (dp_le (x1.trans e1).le0 _ _ hdD) (Le.refl _) (j := 0) rfl rfl fun u hu => ?_
      exact hN u H' (Ex.refl _ _) ⟨d0, hd0, dp_int hu⟩ trivial
    · have ez := ys_ints (f := fun d : Int × Bool => d.1) (by rw [lz, ly]) rz
      refine ⟨D, _, rfl, .inl (SqL.of (by rw [hz, ez])), ?_⟩
      exact q H' (x1.trans e1)
/-- of a hill and a day -/
def spDay (K : PySem.W.Frag) (R : Hill → Nat → V → Prop) : Sp := fun vs H Q _ => ∃ (t : Bool) (h : Hill) (v : V) (n : Nat), vs = [v, .int n] ∧ Dp K H v (h.dat t) ∧ HillOk h ∧ ∀ r H', R h n r → Ex [] H H' → Q r H'
theorem HillOk.L0 {h : Hill} (k : HillOk h) : 0 < h.L := k.y1
theorem HillOk.nn {h : Hill} (k : HillOk h) : h.Nn := fun d hd => (k.d0 d hd).1
theorem sum_le {l : List Int} {z : Int} (h0 : 0 ≤ z) (h : ∀ x, x ∈ l → x ≤ z) : l.sum ≤ l.length * z := by
  induction l with
  | nil => simp
  | cons a r ih =>
    have h1 := h a (List.mem_cons_self ..)
    have h2 := ih fun x hx => h x (List.mem_cons_of_mem _ hx)
    rw [List.sum_cons, List.length_cons]
    have e : ((r.length + 1 : Nat) : Int) * z = r.length * z + z := by
      rw [show ((r.length + 1 : Nat) : Int) = (r.length : Int) + 1 from rfl, Int.add_mul, Int.one_mul]
    omega
theorem HillOk.dm {h : Hill} (k : HillOk h) : h.drops ≤ 20 * 10 ^ 12 := by
  have h1 : h.drops ≤ (h.year.map (·.1)).length * (10 ^ 12 : Int) := sum_le (by decide) fun x hx => by
    obtain ⟨d, hd, rfl⟩ := List.mem_map.mp hx
    exact (k.d0 d hd).2
  rw [List.length_map] at h1
  have h2 := k.y2
  have h3 : ((h.year.length : Nat) : Int) * (10 ^ 12 : Int) ≤ 20 * 10 ^ 12 := by
    have : ((h.year.length : Nat) : Int) ≤ 20 := by omega
    omega
  omega
theorem ok_given_by (T : Txt K mg) : FnOk P w K mg base CX0 2 T.a_given_by T.d_given_by P_given_by (spDay K fun h n r => r = .int (h.given n)) := by
  have nd := sc_given_by.nd
  have G_year_drops := ok_year_drops (P := P) (w := w) (base := base) T
  refine T.F_given_by.ok sc_given_by (fun vs H Q E h => ?_) (fun cdv A outer s H vs Q E hr h => ?_)
  · obtain ⟨t, h, v, n, rfl, _⟩ := h
    rfl
  · obtain ⟨t, h, v, n, rfl, hD, hk, q⟩ := h
    have hr_year_drops := hr
    refine ⟨_, (pss_cons (ps_set (i := 2) nd rfl (Or.inl rfl) (pe_ix (ixK K) (pv 0) pe_int (fun _ _ => rfl)))
      (pss_cons (ps_asg (pe_callB call_divmodW (by rfl) T.z_divmod (by decide +kernel) (pa_cons (pv 1) (pa_cons (pe_callB (lenK K) (by rfl) T.z_len (by decide +kernel) (pa_cons (pv 2) pa_nil)) pa_nil))) (pg_tupK K 2 (by rfl) (pgs_cons (pg_name (i := 3) nd rfl (Or.inl rfl)) (pgs_cons (pg_name (i := 4) nd rfl (Or.inl rfl)) pgs_nil))))
      (pss_one (ps_ret (pe_op op_add (pe_op op_mul (pv 3) (pe_call G_year_drops hr_year_drops (by rfl) T.m_year_drops T.k_year_drops T.b_year_drops .nil pass0 (pa_cons (pv 0) pa_nil))) (pe_callB (sumK K) (by rfl) T.z_sum (by decide +kernel) (pa_cons (pe_lc (own := [("part", 5)]) (by rfl) nd (pi_seqK K (pe_slice (slK K) (pv 2) po_none (po_some (pe_op op_add (pv 4) pe_int)))) (blkOk_by (N := N_given_by) (own := [("part", 5)]) (sc := defScope s_given_by) (by decide +kernel)) (fun _ _ _ _ _ => pg_name (i := 5) nd rfl (Or.inl rfl)) (fun _ _ _ _ _ => pts_nil) (fun _ _ _ _ _ => (pe_ix (ixK K) (pv 5) pe_int (fun _ _ => rfl)))) pa_nil))))))), ?_⟩
    refine ⟨_, rfl, z_ixD hD (Le.refl _) (j := 0) rfl rfl fun u hu => ?_⟩
    obtain ⟨ya, ys, rfl, hyS, hyA⟩ := dp_sq hu
    have ly := dpa_len hyA
    rw [List.length_map] at ly
    have hL : ys.length = h.L := ly
    have hL0 := hk.L0
    have hL2 : h.L ≤ 20 := hk.y2
    walk_at "go"
    refine ⟨_, _, rfl, hyS.sq, ?_⟩
    rw [hL]
    refine ⟨_, _, rfl, divp_of (by omega) (by omega), fun p hp => ?_⟩
    have x1 : Ex [] H (upd H p (.tup [.int ((n : Int) / (h.L : Int)), .int ((n : Int) % (h.L : Int))])) := Ex.new hp
    refine ⟨p, _, rfl, SqT.of upd_same, rfl, _, _, rfl, _, _, rfl, rfl, ?_⟩
    refine ⟨_, rfl, _, rfl, t, h, _, rfl, dp_le x1.le0 _ _ hD, hk, fun H2 x2 => ?_⟩
    refine ⟨_, _, rfl, rfl, .inr ⟨by have := hk.dr; omega, by have := hk.dm; omega⟩, ?_⟩
    have x12 := x1.trans x2
    have hyS2 := le_x x12.le0 hyS
    dsimp only [tCB, tCons]
    have em : ((n : Int) % (h.L : Int) + 1) = ((n % h.L + 1 : Nat) : Int) := by rw [Int.natCast_add, Int.natCast_emod]; rfl
    refine z_lcS (B := []) (C := []) (t := t) (xs := ys.take (n % h.L + 1)) (fun R r => ⟨_, rfl, _, rfl, _, _, rfl, rfl, _, rfl, z_sl hyS2 fun p1 H3 x3 h3 => r p1 H3 x3 (by rw [wo_nil]; rw [em, cut_head] at h3; exact h3)⟩)
      (fun i v _ => ∃ d, (h.year.take (n % h.L + 1))[i]? = some d ∧ v = .int d.1) (fun _ _ => True) (fun H1 x3 => ⟨lcOk0 (by rw [List.length_take]; omega), fun i x _ hx D H' hD' nB e1 _ tD N hN => ?_, fun D zs H' hD' hz lz rz e1 _ => ?_⟩)
    · have hi : i < n % h.L + 1 := by
        obtain ⟨hh, _⟩ := List.getElem?_eq_some_iff.mp hx
        rw [List.length_take] at hh
        omega
      rw [List.getElem?_take, if_pos hi] at hx
      obtain ⟨d, hd, hdD⟩ := dpa_get' hyA hx
      rw [List.getElem?_map] at hd
      obtain ⟨d0, hd0, rfl⟩ := Option.map_eq_some_iff.mp hd
      refine ⟨rfl, _, rfl, ?_⟩
      refine z_ixD (dp_le ((x12.trans x3).trans e1).le0 _ _ hdD) (Le.refl _) (j := 0) rfl rfl fun u hu => ?_
      exact hN u H' (Ex.refl _ _) ⟨d0, by rw [List.getElem?_take, if_pos hi]; exact hd0, dp_int hu⟩ trivial
    · have ez := ys_ints (f := fun d : Int × Bool => d.1) (by rw [lz, List.length_take, List.length_take, ly]) rz
      refine ⟨D, _, rfl, .inl (SqL.of (by rw [hz, ez])), ?_⟩
      refine ⟨_, _, rfl, rfl, ?_⟩
      refine q _ H' ?_ ((x12.trans x3).trans e1)
      show V.int _ = V.int _
      rw [Hill.given_eq hL0, Int.natCast_ediv]
end
end Z64
set_option Elab.async false
set_option linter.all false
set_option maxRecDepth 100000
set_option maxHeartbeats 4000000
namespace Z64
open PySem PySem.Spec PyProof.Rows L2 Hz
section
variable {P : Program} {w : World} {K : PySem.W.Frag} {mg : Str → Option Value} {base : Heap}
local macro_rules | `(tactic| walk_at "go") => `(tactic| repeat (first | refine ⟨_, rfl, ?_⟩ | refine ⟨_, _, rfl, rfl, ?_⟩ | refine ⟨_, _, rfl, .inl (by assumption), ?_⟩ | refine ⟨(by show (0 : Int) < _; first | decide | omega), ?_⟩ | refine ⟨(by first | exact Or.inl ⟨by decide, by decide⟩ | exact Or.inr ⟨by decide, by decide⟩ | exact Or.inl ⟨by omega, by omega⟩ | exact Or.inr ⟨by omega, by omega⟩), ?_⟩ | refine ⟨divw_of (by decide) (by decide), ?_⟩ | refine ⟨⟨by decide, by decide, by decide⟩, ?_⟩ | refine Or.inr ⟨_, rfl, ?_⟩ | refine z_ixL (by assumption) rfl ?_ | refine z_ixL upd_same rfl ?_ | refine ⟨_, _, _, _, rfl, rfl, by assumption, rfl, ?_⟩))
theorem emod_nat (n m : Nat) : ((n : Int) % (m : Int)) = ((n % m : Nat) : Int) := (Int.natCast_emod n m).symm
/-- the year's day of a number, read -/
theorem z_dayAt {H G : Hp} {t : Bool} {h : Hill} {ya : Addr} {ys : List V} {n : Nat} {Q : VK} (hL : 0 < h.L) (hyS : SqX t K G ya ys) (hyA : DpAll K G ys (h.year.map fun d => sq t [.int d.1, .bool d.2])) (le : Le G H)
    (q : ∀ u, Dp K G u (sq t [.int (h.drop n), .bool (h.isOpen n)]) → Q u H) : rIx K (.ref ya) (.int ((n : Int) % (h.L : Int))) H Q := by
  obtain ⟨d, hd, e1, e2⟩ := Hill.at_day hL n
  obtain ⟨u, hu, hD⟩ := dpa_get hyA (i := n % h.L) (d := sq t [.int d.1, .bool d.2]) (by rw [List.getElem?_map, hd]; rfl)
  rw [emod_nat]
  exact z_ix (le_x le hyS).sq (atI_nat hu) (q u (by rw [e1, e2]; exact hD))
theorem ok_open_from (T : Txt K mg) : FnOk P w K mg base CX0 1 T.a_open_from T.d_open_from P_open_from (spDay K fun h n r => ∃ m : Nat, r = .int m ∧ h.OpenFrom n m) := by
  have nd := sc_open_from.nd
  refine T.F_open_from.ok sc_open_from (fun vs H Q E h => ?_) (fun cdv A outer s H vs Q E hr h => ?_)
  · obtain ⟨t, h, v, n, rfl, _⟩ := h
    rfl
  · obtain ⟨t, h, v, n, rfl, hD, hk, q⟩ := h
    refine ⟨_, (pss_cons (ps_set (i := 2) nd rfl (Or.inl rfl) (pe_ix (ixK K) (pv 0) pe_int (fun _ _ => rfl)))
      (pss_cons (ps_while PassesOwn.never (pt_not (pt_val (pe_ix (ixK K) (pe_ix (ixK K) (pv 2) (pe_op op_mod (pv 1) (pe_callB (lenK K) (by rfl) T.z_len (by decide +kernel) (pa_cons (pv 2) pa_nil))) (fun _ _ => rfl)) pe_int (fun _ _ => rfl)))) (pss_one (ps_aug (i := 1) nd rfl (Or.inl rfl) pe_int ip_add)))
      (pss_one (ps_ret (pv 1))))), ?_⟩
    have hL0 := hk.L0
    obtain ⟨m, ⟨m1, m2, m3⟩, _⟩ := Hill.openFrom_ex hL0 hk.op n
    refine ⟨_, rfl, z_ixD hD (Le.refl _) (j := 0) rfl rfl fun u hu => ?_⟩
    obtain ⟨ya, ys, rfl, hyS, hyA⟩ := dp_sq hu
    have ly := dpa_len hyA
    rw [List.length_map] at ly
    have hL : ys.length = h.L := ly
    refine ⟨fun c σ H' => ∃ k : Nat, σ = [some v, some (.int k), some (.ref ya)] ∧ c = m - k ∧ n ≤ k ∧ k ≤ m ∧ H' = H, ⟨m - n, n, rfl, rfl, Nat.le_refl _, m1, rfl⟩, fun c σ H' hw => ?_⟩
    obtain ⟨k, rfl, rfl, k1, k2, rfl⟩ := hw
    refine ⟨_, rfl, _, rfl, _, rfl, _, _, rfl, hyS.sq, ?_⟩
    rw [hL]
    refine ⟨_, _, rfl, rfl, (by show (0 : Int) < _; omega), ?_⟩
    refine z_dayAt hL0 hyS hyA (Le.refl _) fun u hu => ?_
    refine z_ixD hu (Le.refl _) (j := 1) rfl rfl fun b hb => ?_
    have eb := dp_bl hb
    subst eb
    refine ⟨_, rfl, ?_⟩
    by_cases c : h.isOpen k = true
    · rw [c]
      refine iteF ?_
      refine ⟨_, rfl, q _ H' ⟨k, rfl, k1, c, fun j j1 j2 => m3 j j1 (by omega)⟩ (Ex.refl _ _)⟩
    · rw [Bool.eq_false_iff.mpr c]
      refine iteT ⟨_, fun _ _ hn => hn, ?_⟩
      have km : k ≠ m := fun z => c (z ▸ m2)
      refine ⟨_, rfl, _, _, rfl, rfl, m - (k + 1), by omega, k + 1, rfl, rfl, by omega, by omega, rfl⟩
def spDayOf (K : PySem.W.Frag) : Sp := fun vs H Q _ => ∃ (t : Bool) (h : Hill) (v : V) (n : Nat), vs = [v, .int n] ∧ Dp K H v (h.dat t) ∧ HillOk h ∧ 1 ≤ n ∧ ∀ (m : Nat) H', h.DayOf n m → Ex [] H H' → Q (.int m) H'
theorem ok_day_of (T : Txt K mg) : FnOk P w K mg base CX0 2 T.a_day_of T.d_day_of P_day_of (spDayOf K) := by
  have nd := sc_day_of.nd
  have G_year_drops := ok_year_drops (P := P) (w := w) (base := base) T
  have G_open_from := ok_open_from (P := P) (w := w) (base := base) T
  refine T.F_day_of.ok sc_day_of (fun vs H Q E h => ?_) (fun cdv A outer s H vs Q E hr h => ?_)
  · obtain ⟨t, h, v, n, rfl, _⟩ := h
    rfl
  · obtain ⟨t, h, v, n, rfl, hD, hk, hn, q⟩ := h
    have hr_year_drops := hr
    have hr_open_from := hr
    refine ⟨_, (pss_cons (ps_set (i := 2) nd rfl (Or.inl rfl) (pe_ix (ixK K) (pv 0) pe_int (fun _ _ => rfl)))
      (pss_cons (ps_asg (pe_callB call_divmodW (by rfl) T.z_divmod (by decide +kernel) (pa_cons (pe_op op_sub (pv 1) pe_int) (pa_cons (pe_call G_year_drops hr_year_drops (by rfl) T.m_year_drops T.k_year_drops T.b_year_drops .nil pass0 (pa_cons (pv 0) pa_nil)) pa_nil))) (pg_tupK K 2 (by rfl) (pgs_cons (pg_name (i := 3) nd rfl (Or.inl rfl)) (pgs_cons (pg_name (i := 4) nd rfl (Or.inl rfl)) pgs_nil))))
      (pss_cons (ps_set (i := 5) nd rfl (Or.inl rfl) (pe_op op_add (pv 4) pe_int))
      (pss_cons (ps_set (i := 6) nd rfl (Or.inl rfl) pe_int)
      (pss_cons (ps_while PassesOwn.never (pt_cmpR op_gt (pv 5) (pe_ix (ixK K) (pe_ix (ixK K) (pv 2) (pv 6) (fun _ _ => rfl)) pe_int (fun _ _ => rfl)) (nomark _)) (pss_cons (ps_aug (i := 5) nd rfl (Or.inl rfl) (pe_ix (ixK K) (pe_ix (ixK K) (pv 2) (pv 6) (fun _ _ => rfl)) pe_int (fun _ _ => rfl)) ip_sub)
      (pss_one (ps_aug (i := 6) nd rfl (Or.inl rfl) pe_int ip_add))))
      (pss_one (ps_ret (pe_call G_open_from hr_open_from (by rfl) T.m_open_from T.k_open_from T.b_open_from .nil pass0 (pa_cons (pv 0) (pa_cons (pe_op op_add (pe_op op_mul (pv 3) (pe_callB (lenK K) (by rfl) T.z_len (by decide +kernel) (pa_cons (pv 2) pa_nil))) (pv 6)) pa_nil)))))))))), ?_⟩
    have hL0 := hk.L0
    have hdr := hk.dr
    refine ⟨_, rfl, z_ixD hD (Le.refl _) (j := 0) rfl rfl fun u hu => ?_⟩
    have hu0 := hu
    obtain ⟨ya, ys, rfl, hyS, hyA⟩ := dp_sq hu
    have ly := dpa_len hyA
    rw [List.length_map] at ly
    have hL : ys.length = h.L := ly
    have hL2 : h.L ≤ 20 := hk.y2
    obtain ⟨dn, hdn⟩ : ∃ dn : Nat, h.drops = dn := ⟨h.drops.toNat, by omega⟩
    obtain ⟨n1, hn1⟩ : ∃ n1 : Nat, n = n1 + 1 := ⟨n - 1, by omega⟩
    subst hn1
    have ed : ((n1 + 1 : Nat) : Int) - 1 = (n1 : Int) := by omega
    have hb : n1 % dn < dn := Nat.mod_lt _ (by omega)
    have hdm := Nat.div_add_mod n1 dn
    refine ⟨_, rfl, _, _, rfl, rfl, _, rfl, t, h, _, rfl, hD, hk, fun H1 x1 => ?_⟩
    refine ⟨_, _, rfl, divp_of hdr (by have := hk.dm; omega), fun p hp => ?_⟩
    rw [ed, hdn, ← Int.natCast_ediv, ← Int.natCast_emod]
    have x2 : Ex [] H (upd H1 p (.tup [.int ((n1 / dn : Nat) : Int), .int ((n1 % dn : Nat) : Int)])) := x1.trans (Ex.new hp)
    refine ⟨p, _, rfl, SqT.of upd_same, rfl, _, _, rfl, _, _, rfl, rfl, ?_⟩
    refine ⟨_, rfl, _, _, rfl, rfl, ?_⟩
    have total : ((h.year.take h.L).map (·.1)).sum = (dn : Int) := by
      rw [← hdn]
      unfold Hill.L Hill.drops
      rw [List.take_length]
    refine ⟨fun c σ H' => ∃ (j : Nat) (z : Int), σ = [some v, some (.int ((n1 + 1 : Nat) : Int)), some (.ref ya), some (.int ((n1 / dn : Nat) : Int)), some (.int ((n1 % dn : Nat) : Int)), some (.int z), some (.int j)] ∧ c = h.L - j ∧ j < h.L ∧ 1 ≤ z ∧ z = ((n1 % dn : Nat) : Int) + 1 - ((h.year.take j).map (·.1)).sum ∧ Ex [] H H',
      ⟨h.L - 0, 0, _, rfl, rfl, hL0, ?_, ?_, x2⟩, fun c σ H' hw => ?_⟩
    · show 1 ≤ ((n1 % dn : Nat) : Int) + 1
      omega
    · rw [List.take_zero, List.map_nil, List.sum_nil]
      show ((n1 % dn : Nat) : Int) + 1 = _
      omega
    obtain ⟨j, z, rfl, rfl, hj, hz, ez, x3⟩ := hw
    have hday : (h.year.map fun d => sq t [.int d.1, .bool d.2])[j]? = some (sq t [.int (h.year[j]'hj).1, .bool (h.year[j]'hj).2]) := by
      rw [List.getElem?_map, List.getElem?_eq_getElem hj]
      rfl
    have hts := Hill.take_sum (List.getElem?_eq_getElem (l := h.year) hj)
    refine ⟨_, rfl, _, rfl, _, rfl, z_ixD (dp_le x3.le0 _ _ hu0) (Le.refl _) rfl hday fun u hu => z_ixD hu (Le.refl _) (j := 0) rfl rfl fun b hb => ?_⟩
    have eb := dp_int hb
    subst eb
    refine ⟨_, _, rfl, rfl, _, rfl, ?_⟩
    refine ite2 (fun c => ?_) (fun c => ?_)
    · have c' : (h.year[j]'hj).1 < z := of_decide_eq_true c
      have j2 : j + 1 < h.L := by
        refine Nat.lt_of_le_of_ne hj fun e => ?_
        rw [e, total] at hts
        omega
      refine ⟨_, fun _ _ hh => hh, ?_⟩
      refine ⟨_, rfl, _, rfl, _, rfl, z_ixD (dp_le x3.le0 _ _ hu0) (Le.refl _) rfl hday fun u hu => z_ixD hu (Le.refl _) (j := 0) rfl rfl fun b hb => ?_⟩
      have eb := dp_int hb
      subst eb
      refine ⟨_, _, rfl, rfl, _, rfl, _, _, rfl, rfl, h.L - (j + 1), by omega, j + 1, _, rfl, rfl, j2, ?_, ?_, x3⟩
      · show 1 ≤ z - (h.year[j]'hj).1
        omega
      · show z - (h.year[j]'hj).1 = _
        rw [hts]
        omega
    · have c' : ¬ (h.year[j]'hj).1 < z := of_decide_eq_false (Bool.eq_false_iff.mpr c)
      refine ⟨_, rfl, _, rfl, _, rfl, _, _, rfl, (le_x x3.le0 hyS).sq, ?_⟩
      rw [hL]
      refine ⟨_, _, rfl, rfl, .inr ⟨by omega, by omega⟩, _, rfl, _, _, rfl, rfl, ?_⟩
      have hge := Hill.ge_at hL0 (n1 / dn) j hj
      have hgs := Hill.ge_succ hL0 (n1 / dn * h.L + j)
      rw [Hill.drop_at _ _ hj] at hgs
      have em : ((n1 / dn : Nat) : Int) * h.drops = ((dn * (n1 / dn) : Nat) : Int) := by rw [hdn, Int.natCast_mul, Int.mul_comm]
      refine ⟨t, h, v, n1 / dn * h.L + j, ?_, dp_le x3.le0 _ _ hD, hk, fun r H4 ⟨m, er, om⟩ x4 => ?_⟩
      · show [v, V.int _] = _
        rw [Int.natCast_add, Int.natCast_mul]
      · subst er
        refine q m H4 (Hill.dayOf_of hk.nn hL0 ?_ (fun k hk' => ?_) om) (x3.trans x4)
        · show _ ≤ h.ge _
          rw [hgs, hge, em]
          omega
        · have := Hill.ge_mono hk.nn hL0 (show k + 1 ≤ n1 / dn * h.L + j by omega)
          show h.ge (k + 1) < _
          rw [hge, em] at this
          omega
end
end Z64
set_option Elab.async false
set_option linter.all false
set_option maxRecDepth 100000
set_option maxHeartbeats 4000000
namespace Z64
open PySem PySem.Spec PyProof.Rows L2 Hz
section
variable {P : Program} {w : World} {K : PySem.W.Frag} {mg : Str → Option Value} {base : Heap}
local macro_rules | `(tactic| walk_at "go") => `(tactic| repeat (first | refine ⟨_, rfl, ?_⟩ | refine ⟨_, _, rfl, rfl, ?_⟩ | refine ⟨_, _, rfl, .inl (by assumption), ?_⟩ | refine ⟨(by show (0 : Int) < _; first | decide | omega), ?_⟩ | refine ⟨(by first | exact Or.inl ⟨by decide, by decide⟩ | exact Or.inr ⟨by decide, by decide⟩ | exact Or.inl ⟨by omega, by omega⟩ | exact Or.inr ⟨by omega, by omega⟩), ?_⟩ | refine ⟨divw_of (by decide) (by decide), ?_⟩ | refine ⟨⟨by decide, by decide, by decide⟩, ?_⟩ | refine Or.inr ⟨_, rfl, ?_⟩ | refine z_ixL (by assumption) rfl ?_ | refine z_ixL upd_same rfl ?_ | refine ⟨_, _, _, _, rfl, rfl, by assumption, rfl, ?_⟩))
local macro_rules | `(tactic| walk_at "un") => `(tactic| dsimp only [tSeq, tIfS, tRet, tAsg, tDrop, tOr, tAnd, tNot, tAndV, tOrV, tNotV, tTest, tB, tOp, tUn, tCB, tCons, tNil, tC, tNext, tIf, tChain, gName])
/-- lists for tuples -/
def spLists (K : PySem.W.Frag) (N : Nat) : Sp := fun vs H Q _ => ∃ (B : List Addr) (v : V) (d : PyData), vs = [v] ∧ Dp K (wo B H) v d ∧ dpt N d ∧ (∀ b, b ∈ B → H b ≠ none) ∧ ∀ v' H', Ex [] H H' → Dp K (wo B H') v' (listed d) → Q v' H'
/-- two things that are alike -/
def spSame (K : PySem.W.Frag) (N : Nat) : Sp := fun vs H Q _ => ∃ (u v : V) (d : PyData), vs = [u, v] ∧ Dp K H u d ∧ Dp K H v d ∧ dpt N d ∧ ∀ H', Ex [] H H' → Q (.bl true) H'
end
end Z64
set_option Elab.async false
set_option linter.all false
set_option maxRecDepth 100000
set_option maxHeartbeats 4000000
namespace Z64
open PySem PySem.Spec PyProof.Rows L2 Hz
section
variable {P : Program} {w : World} {K : PySem.W.Frag} {mg : Str → Option Value} {base : Heap}
local macro_rules | `(tactic| walk_at "go") => `(tactic| repeat (first | refine ⟨_, rfl, ?_⟩ | refine ⟨_, _, rfl, rfl, ?_⟩ | refine ⟨_, _, rfl, .inl (by assumption), ?_⟩ | refine ⟨(by show (0 : Int) < _; first | decide | omega), ?_⟩ | refine ⟨(by first | exact Or.inl ⟨by decide, by decide⟩ | exact Or.inr ⟨by decide, by decide⟩ | exact Or.inl ⟨by omega, by omega⟩ | exact Or.inr ⟨by omega, by omega⟩), ?_⟩ | refine ⟨divw_of (by decide) (by decide), ?_⟩ | refine ⟨⟨by decide, by decide, by decide⟩, ?_⟩ | refine Or.inr ⟨_, rfl, ?_⟩ | refine z_ixL (by assumption) rfl ?_ | refine z_ixL upd_same rfl ?_ | refine ⟨_, _, _, _, rfl, rfl, by assumption, rfl, ?_⟩))
local macro_rules | `(tactic| walk_at "un") => `(tactic| dsimp only [tSeq, tIfS, tRet, tAsg, tDrop, tOr, tAnd, tNot, tAndV, tOrV, tNotV, tTest, tB, tOp, tUn, tCB, tCons, tNil, tC, tNext, tIf, tChain, gName])

def spHillT (K : PySem.W.Frag) (f : Hill → V) : Sp := fun vs H Q _ => ∃ (h : Hill) (v : V), vs = [v] ∧ Dp K H v (h.dat true) ∧ HillOk h ∧ ∀ H', Ex [] H H' → Q (f h) H'
/-- the two parts of a day, a tuple -/
theorem day_parts {H : Hp} {x : V} {i : Int} {b : Bool} (h : Dp K H x (sq true [.int i, .bool b])) : ∃ a, x = .ref a ∧ SqT K H a [.int i, .bl b] := by
  obtain ⟨a, xs, rfl, hS, hA⟩ := dp_tup h
  cases hA with
  | cons h1 h2 =>
    cases h2 with
    | cons h3 h4 =>
      cases h4
      rw [dp_int h1, dp_bl h3] at hS
      exact ⟨a, rfl, hS⟩
theorem ok_whole (T : Txt K mg) : FnOk P w K mg base CX0 1 T.a__law_whole T.d__law_whole P__law_whole (spHillT K fun h => .int h.drops) := by
  have nd := sc__law_whole.nd
  refine T.F__law_whole.ok sc__law_whole (fun vs H Q E h => ?_) (fun cdv A outer s H vs Q E hr h => ?_)
  · obtain ⟨h, v, rfl, _⟩ := h
    rfl
  · obtain ⟨h, v, rfl, hD, hk, q⟩ := h
    have hl := hk.y2
    refine ⟨_, (pss_one (ps_ret (pe_callB (sumK K) (by rfl) T.z_sum (by decide +kernel) (pa_cons (pe_lc (own := [("_law_drip", 1), ("_law_lit", 2)]) (by rfl) nd (pi_seqK K (pe_ix (ixK K) (pv 0) pe_int (fun _ _ => rfl))) (blkOk_by (N := N__law_whole) (own := [("_law_drip", 1), ("_law_lit", 2)]) (sc := defScope s__law_whole) (by decide +kernel)) (fun _ _ _ _ _ => (pg_tupK K 2 (by rfl) (pgs_cons (pg_name (i := 1) nd rfl (Or.inl rfl)) (pgs_cons (pg_name (i := 2) nd rfl (Or.inl rfl)) pgs_nil)))) (fun _ _ _ _ _ => pts_nil) (fun _ _ _ _ _ => (pv 1))) pa_nil)))), ?_⟩
    obtain ⟨a, xs, rfl, hS, hA⟩ := dp_sq hD
    obtain ⟨yv, hy, hyD⟩ := dpa_get hA (i := 0) rfl
    obtain ⟨ya, ys, rfl, hyS, hyA⟩ := dp_sq hyD
    have ly := dpa_len hyA
    rw [List.length_map] at ly
    walk_at "un"
    refine z_lcS (B := []) (C := []) (t := true) (xs := ys) (fun R r => ⟨_, rfl, z_ix hS.sq (v := .ref ya) (i := 0) (atI_nat hy) (r ya H (Ex.refl _ _) (by rw [wo_nil]; exact hyS))⟩)
      (fun i v _ => ∃ d, h.year[i]? = some d ∧ v = .int d.1) (fun _ _ => True) (fun H1 x1 => ⟨lcOk0 (by omega), fun i x _ hx D H' hD' nB e1 _ tD N hN => ?_, fun D zs H' hD' hz lz rz e1 _ => ?_⟩)
    · obtain ⟨d, hd, hdD⟩ := dpa_get' hyA hx
      rw [List.getElem?_map] at hd
      obtain ⟨d0, hd0, rfl⟩ := Option.map_eq_some_iff.mp hd
      obtain ⟨da, rfl, hda⟩ := day_parts (dp_le (x1.trans e1).le0 _ _ hdD)
      exact ⟨da, _, rfl, hda, rfl, _, _, rfl, _, _, rfl, rfl, rfl, _, rfl, hN _ H' (Ex.refl _ _) ⟨d0, hd0, rfl⟩ trivial⟩
    · have ez := ys_ints (f := fun d : Int × Bool => d.1) (by rw [lz, ly]) rz
      refine ⟨D, _, rfl, .inl (SqL.of (by rw [hz, ez])), ?_⟩
      exact q H' (x1.trans e1)
def spDayT (K : PySem.W.Frag) (R : Hill → Nat → V → Prop) : Sp := fun vs H Q _ => ∃ (h : Hill) (v : V) (n : Nat), vs = [v, .int n] ∧ Dp K H v (h.dat true) ∧ HillOk h ∧ ∀ r H', R h n r → Ex [] H H' → Q r H'
def spDawn (K : PySem.W.Frag) : Sp := fun vs H Q _ => ∃ (h : Hill) (v : V) (n : Nat), vs = [v, .int n] ∧ Dp K H v (h.dat true) ∧ HillOk h ∧ 1 ≤ n ∧ ∀ (m : Nat) H', h.DayOf n m → Ex [] H H' → Q (.int m) H'
end
end Z64
set_option Elab.async false
set_option linter.all false
set_option maxRecDepth 100000
set_option maxHeartbeats 2000000
namespace Hz
open PySem PySem.Spec PyProof.Rows L2
/-- a year under way: a list of lists of two -/
structure YearAt (b y : Addr) (as : List Addr) (c : List (Int × Bool)) (H : Hp) : Prop where
  ly : H y = some (.lst (as.map V.ref))
  len : as.length = c.length
  at_ : ∀ (j : Nat) a d, as[j]? = some a → c[j]? = some d → H a = some (.lst [.int d.1, .bl d.2])
  nd : as.Nodup
  ny : y ∉ as
  nb : b ∉ as
  by_ : b ≠ y
section
variable {b y : Addr} {as : List Addr} {c : List (Int × Bool)} {H H' : Hp}
theorem YearAt.ex (h : YearAt b y as c H) (e : Ex [b] H H') : YearAt b y as c H' :=
  ⟨e.1 _ _ (fun z => h.by_ (List.mem_singleton.mp z).symm) h.ly, h.len, fun j a d h1 h2 => e.1 _ _ (fun z => h.nb ((List.mem_singleton.mp z) ▸ List.mem_of_getElem? h1)) (h.at_ j a d h1 h2), h.nd, h.ny, h.nb, h.by_⟩
theorem YearAt.push (h : YearAt b y as c H) {p : Addr} {d : Int} {f : Bool} (hp : H p = some (.lst [.int d, .bl f])) (n1 : p ∉ as) (n2 : p ≠ y) (n3 : p ≠ b) :
    YearAt b y (as ++ [p]) (c ++ [(d, f)]) (upd H y (.lst (as.map V.ref ++ [.ref p]))) := by
  refine ⟨by rw [upd_same, List.map_append]; rfl, by rw [List.length_append, List.length_append, h.len]; rfl, fun j a e h1 h2 => ?_, ?_, ?_, ?_, h.by_⟩
  · have ha : a ≠ y := by
      have : a ∈ as ++ [p] := List.mem_of_getElem? h1
      rcases List.mem_append.mp this with z | z
      · exact fun q => h.ny (q ▸ z)
      · rw [List.mem_singleton.mp z]; exact n2
    rw [upd_ne ha]
    by_cases l : j < as.length
    · rw [List.getElem?_append_left l] at h1
      rw [List.getElem?_append_left (h.len ▸ l)] at h2
      exact h.at_ j a e h1 h2
    · have hj : j = as.length := by
        obtain ⟨q, _⟩ := List.getElem?_eq_some_iff.mp h1
        rw [List.length_append, List.length_singleton] at q
        omega
      subst hj
      rw [List.getElem?_append_right (Nat.le_refl _), Nat.sub_self] at h1
      rw [h.len, List.getElem?_append_right (Nat.le_refl _), Nat.sub_self] at h2
      cases h1
      cases h2
      exact hp
  · rw [List.nodup_append]
    refine ⟨h.nd, by simp, fun a ha q hq => ?_⟩
    rw [List.mem_singleton.mp hq]
    exact fun z => n1 (z ▸ ha)
  · intro z
    rcases List.mem_append.mp z with z | z
    · exact h.ny z
    · exact n2 (List.mem_singleton.mp z).symm
  · intro z
    rcases List.mem_append.mp z with z | z
    · exact h.nb z
    · exact n3 (List.mem_singleton.mp z).symm
theorem YearAt.set (h : YearAt b y as c H) {w : Nat} {a : Addr} {z : Int} {f : Bool} (ha : as[w]? = some a) : YearAt b y as (c.set w (z, f)) (upd H a (.lst [.int z, .bl f])) := by
  have ma := List.mem_of_getElem? ha
  refine ⟨by rw [upd_ne (fun q => h.ny (by rw [q]; exact ma))]; exact h.ly, by rw [List.length_set]; exact h.len, fun j e d h1 h2 => ?_, h.nd, h.ny, h.nb, h.by_⟩
  by_cases q : j = w
  · subst q
    rw [ha] at h1
    cases h1
    rw [upd_same]
    obtain ⟨l, _⟩ := List.getElem?_eq_some_iff.mp h2
    rw [List.length_set] at l
    rw [List.getElem?_set_self l] at h2
    cases h2
    rfl
  · rw [List.getElem?_set_ne (fun z => q z.symm)] at h2
    have ne : e ≠ a := fun z => q (nd_ix h.nd h1 (z ▸ ha))
    rw [upd_ne ne]
    exact h.at_ j e d h1 h2
theorem YearAt.mem (h : YearAt b y as c H) {j : Nat} (hj : j < c.length) : ∃ a, as[j]? = some a ∧ H a = some (.lst [.int (c[j]'hj).1, .bl (c[j]'hj).2]) := by
  have hj' : j < as.length := by rw [h.len]; exact hj
  exact ⟨as[j], List.getElem?_eq_getElem hj', h.at_ j _ _ (List.getElem?_eq_getElem hj') (List.getElem?_eq_getElem hj)⟩
theorem YearAt.fresh (h : YearAt b y as c H) {p : Addr} (hp : H p = none) : p ∉ as ∧ p ≠ y := by
  refine ⟨fun z => ?_, fun z => ?_⟩
  · obtain ⟨j, hj, e⟩ := List.getElem_of_mem z
    have := h.at_ j p (c[j]'(h.len ▸ hj)) (by rw [List.getElem?_eq_getElem hj, e]) (List.getElem?_eq_getElem _)
    rw [hp] at this; cases this
  · have := h.ly
    rw [← z, hp] at this; cases this
end
theorem Bx.ne {b p : Addr} {n : Nat} {H : Hp} (h : Bx b n H) (hp : H p = none) : p ≠ b := fun z => by
  obtain ⟨_, _, _, hb, _⟩ := h
  rw [← z, hp] at hb; cases hb
theorem sq_new {K : PySem.W.Frag} {b p : Addr} {n : Nat} {H : Hp} {xs : List V} (h : Bx b n H) (hp : H p = none) : Sq K (wo [b] (upd H p (.lst xs))) p xs :=
  .inl (SqL.of (wo_of (by simpa using h.ne hp) upd_same))
theorem YearAt.other {b y : Addr} {as : List Addr} {c : List (Int × Bool)} {H : Hp} (h : YearAt b y as c H) {p : Addr} {o : HO} (n1 : p ∉ as) (n2 : p ≠ y) : YearAt b y as c (upd H p o) :=
  ⟨by rw [upd_ne n2.symm]; exact h.ly, h.len, fun j a d h1 h2 => by
    have na : a ≠ p := fun z => n1 (by rw [← z]; exact List.mem_of_getElem? h1)
    rw [upd_ne na]
    exact h.at_ j a d h1 h2, h.nd, h.ny, h.nb, h.by_⟩
theorem sum_pos : ∀ {l : List Int} {z : Int}, (∀ x, x ∈ l → 0 ≤ x) → z ∈ l → z ≤ l.sum
  | [], _, _, h => by cases h
  | a :: r, z, h0, h => by
    rw [List.sum_cons]
    have hr : 0 ≤ r.sum := by
      clear h
      induction r with
      | nil => exact Int.le_refl _
      | cons b q ih =>
        rw [List.sum_cons]
        have h1 := h0 b (by simp)
        have h2 := ih fun x hx => by
          rcases List.mem_cons.mp hx with e | e
          · exact h0 x (by rw [e]; simp)
          · exact h0 x (by simp [e])
        omega
    rcases List.mem_cons.mp h with e | e
    · subst e; omega
    · have h1 := h0 a (List.mem_cons_self ..)
      have h2 := sum_pos (l := r) (z := z) (fun x hx => h0 x (List.mem_cons_of_mem _ hx)) e
      omega
/-- a year with a drop, and an open day -/
structure YearOk (c : List (Int × Bool)) (n : Nat) : Prop where
  len : c.length = n
  bd : ∀ d ∈ c, 0 ≤ d.1 ∧ d.1 ≤ 10 ^ 11
  op : ∃ d, d ∈ c ∧ d.2 = true
  dr : 0 < (c.map (·.1)).sum
theorem year_fix {c : List (Int × Bool)} {wn ln : Nat} {M d' : Int} {f f' : Bool} (hw : wn < c.length) (hl : ln < c.length) (hc : ∀ d ∈ c, 0 ≤ d.1 ∧ d.1 ≤ 10 ^ 11) (hM : 1 ≤ M) (hM2 : M ≤ 10 ^ 11)
    (hd : (c.set wn (M, f))[ln]? = some (d', f')) : YearOk ((c.set wn (M, f)).set ln (d', true)) c.length := by
  have h1 : ∀ d ∈ c.set wn (M, f), 0 ≤ d.1 ∧ d.1 ≤ 10 ^ 11 := fun d hd => by
    rcases List.mem_or_eq_of_mem_set hd with h | h
    · exact hc d h
    · rw [h]; exact ⟨by show 0 ≤ M; omega, hM2⟩
  have h2 := h1 _ (List.mem_of_getElem? hd)
  have hl' : ln < (c.set wn (M, f)).length := by rw [List.length_set]; exact hl
  have h3 : ∀ d ∈ (c.set wn (M, f)).set ln (d', true), 0 ≤ d.1 ∧ d.1 ≤ 10 ^ 11 := fun d hd => by
    rcases List.mem_or_eq_of_mem_set hd with h | h
    · exact h1 d h
    · rw [h]; exact h2
  refine ⟨by rw [List.length_set, List.length_set], h3, ⟨(d', true), ?_, rfl⟩, ?_⟩
  · exact List.mem_of_getElem? (List.getElem?_set_self hl')
  · have hm : ∃ e, e ∈ (c.set wn (M, f)).set ln (d', true) ∧ 1 ≤ e.1 := by
      by_cases q : ln = wn
      · subst q
        rw [List.getElem?_set_self hw] at hd
        cases hd
        exact ⟨_, List.mem_of_getElem? (List.getElem?_set_self hl'), hM⟩
      · refine ⟨(M, f), List.mem_of_getElem? (i := wn) ?_, hM⟩
        rw [List.getElem?_set_ne q, List.getElem?_set_self hw]
    obtain ⟨e, he, e1⟩ := hm
    have := sum_pos (l := ((c.set wn (M, f)).set ln (d', true)).map (·.1)) (z := e.1) (fun x hx => by
      obtain ⟨d, hd, rfl⟩ := List.mem_map.mp hx
      exact (h3 d hd).1) (List.mem_map.mpr ⟨e, he, rfl⟩)
    omega
theorem Bx.there {b : Addr} {n : Nat} {H : Hp} (h : Bx b n H) : H b ≠ none := fun z => by
  obtain ⟨_, _, _, hb, _⟩ := h
  rw [z] at hb; cases hb
end Hz
set_option Elab.async false
set_option linter.all false
set_option maxRecDepth 100000
set_option maxHeartbeats 4000000
namespace Z64
open PySem PySem.Spec PyProof.Rows L2 Hz
section
variable {P : Program} {w : World} {K : PySem.W.Frag} {mg : Str → Option Value} {base : Heap}
local macro_rules | `(tactic| walk_at "go") => `(tactic| repeat (first | refine ⟨_, rfl, ?_⟩ | refine ⟨_, _, rfl, rfl, ?_⟩ | refine ⟨_, _, rfl, .inl (by assumption), ?_⟩ | refine ⟨(by show (0 : Int) < _; first | decide | omega), ?_⟩ | refine ⟨(by first | exact Or.inl ⟨by decide, by decide⟩ | exact Or.inr ⟨by decide, by decide⟩ | exact Or.inl ⟨by omega, by omega⟩ | exact Or.inr ⟨by omega, by omega⟩), ?_⟩ | refine ⟨divw_of (by decide) (by decide), ?_⟩ | refine ⟨⟨by decide, by decide, by decide⟩, ?_⟩ | refine Or.inr ⟨_, rfl, ?_⟩ | refine z_ixL (by assumption) rfl ?_ | refine z_ixL upd_same rfl ?_ | refine ⟨_, _, _, _, rfl, rfl, by assumption, rfl, ?_⟩))
local macro_rules | `(tactic| walk_at "un") => `(tactic| dsimp only [tSeq, tIfS, tRet, tAsg, tDrop, tOr, tAnd, tNot, tAndV, tOrV, tNotV, tTest, tB, tOp, tUn, tCB, tCons, tNil, tC, tNext, tIf, tChain, gName, tPar, tPar3, tTup, tLst])


def spWide (K : PySem.W.Frag) : Sp := fun vs H Q _ => ∃ (b : Addr) (n : Nat), vs = [.ref b] ∧ Bx b n H ∧ n ≤ 10 ^ 12 ∧ ∀ (z : Int) H', 1 ≤ z → z ≤ 10 ^ 10 → Ex [b] H H' → Bx b (n + 16) H' → Q (.int z) H'
theorem ok_wide (T : Txt K mg) : FnOk P w K mg base CX0 7 T.a__law_wide T.d__law_wide P__law_wide (spWide K) := by
  have nd := sc__law_wide.nd
  have G__law_of := ok_of (P := P) (w := w) (base := base) T
  refine T.F__law_wide.ok sc__law_wide (fun vs H Q E h => ?_) (fun cdv A outer s H vs Q E hr h => ?_)
  · obtain ⟨b, n, rfl, _⟩ := h
    rfl
  · obtain ⟨b, n, rfl, hB, hn, q⟩ := h
    have hr__law_of := hr
    refine ⟨_, (pss_one (ps_ret (pe_call G__law_of hr__law_of (by rfl) T.m__law_of T.k__law_of T.b__law_of .nil pass0 (pa_cons (pv 0) (pa_cons (pe_lst (pa_cons pe_int (pa_cons pe_int (pa_cons pe_int (pa_cons (pe_op op_pow pe_int pe_int) (pa_cons (pe_op op_pow pe_int pe_int) pa_nil)))))) pa_nil))))), ?_⟩
    walk_at "un"
    refine ⟨_, rfl, _, _, rfl, rfl, ⟨by decide, by decide, by decide⟩, _, _, rfl, rfl, ⟨by decide, by decide, by decide⟩, (by show 5 ≤ sizeLine; decide), fun p hp => ?_⟩
    have x1 : Ex [] H (upd H p (.lst [.int 3, .int 9, .int 60, .int (10 ^ (6 : Int).toNat), .int (10 ^ (10 : Int).toNat)])) := Ex.new hp
    have hbp : p ≠ b := fun z => by obtain ⟨_, _, _, hb, _⟩ := hB; rw [← z, hp] at hb; cases hb
    refine ⟨b, p, _, n, rfl, hB.ex x1 (by simp), hn, .inl (SqL.of (wo_of (by simpa using hbp) upd_same)), by decide, by decide, fun v H' hv x2 B2 => ?_⟩
    have hv' : ∃ z : Int, v = .int z ∧ 1 ≤ z ∧ z ≤ 10 ^ 10 := by
      simp only [List.mem_cons, List.not_mem_nil, or_false] at hv
      rcases hv with rfl | rfl | rfl | rfl | rfl <;> exact ⟨_, rfl, by decide, by decide⟩
    obtain ⟨z, rfl, z1, z2⟩ := hv'
    exact q z H' z1 z2 ((Ex.nil x1).trans x2) B2
/-- how great a drawn hill may be -/
structure NestB (h : Hill) (len size wide : Int) : Prop where
  most : h.most ≤ h.drops + 3
  drops : h.drops ≤ 12 * (wide + 3)
  needs : ∀ m ∈ h.needs, m ≤ 2 * h.drops + 2
  year : (h.year.length : Int) ≤ len
  ants : (h.needs.length : Int) ≤ size
def spNest (K : PySem.W.Frag) : Sp := fun vs H Q _ => ∃ (b : Addr) (n : Nat) (len size wide : Int), vs = [.ref b, .int len, .int size, .int wide] ∧ Bx b n H ∧ n ≤ 10 ^ 11 ∧ 1 ≤ len ∧ len ≤ 12 ∧ 1 ≤ size ∧ size ≤ 6 ∧ 1 ≤ wide ∧ wide ≤ 10 ^ 10 ∧
  ∀ (h : Hill) v H', HillOk h → NestB h len size wide → Dp K (wo [b] H') v (h.dat true) → Ex [b] H H' → Bx b (n + 5000) H' → Q v H'
theorem ok_nest (T : Txt K mg) : FnOk P w K mg base CX0 7 T.a__law_nest T.d__law_nest P__law_nest (spNest K) := by
  have nd := sc__law_nest.nd
  have G__law_of := ok_of (P := P) (w := w) (base := base) T
  have G__law_take := ok_T (P := P) (w := w) (base := base) T
  refine T.F__law_nest.ok sc__law_nest (fun vs H Q E h => ?_) (fun cdv A outer s H vs Q E hr h => ?_)
  · obtain ⟨b, n, len, size, wide, rfl, _⟩ := h
    rfl
  · obtain ⟨b, n, len, size, wide, rfl, hB, hn, l1, l2, s1, s2, w1, w2, q⟩ := h
    have hr__law_of := hr
    have hr__law_take := hr.mono (show 5 ≤ 6 by decide)
    have hn' : n ≤ 100000000000 := hn
    refine ⟨_, (pss_cons (ps_set (i := 4) nd rfl (Or.inl rfl) (pe_lst pa_nil))
      (pss_cons (ps_for PassesOwn.never rfl (pi_range1 (by rfl) T.z_range (pa_cons (pe_op op_add pe_int (pe_call G__law_take hr__law_take (by rfl) T.m__law_take T.k__law_take T.b__law_take .nil pass0 (pa_cons (pv 0) (pa_cons (pv 1) pa_nil)))) pa_nil)) (pg_name (i := 5) nd rfl (Or.inl rfl)) (pss_cons (ps_set (i := 6) nd rfl (Or.inl rfl) (pe_call G__law_of hr__law_of (by rfl) T.m__law_of T.k__law_of T.b__law_of .nil pass0 (pa_cons (pv 0) (pa_cons (pe_lst (pa_cons pe_int (pa_cons (pe_op op_add pe_int (pe_call G__law_take hr__law_take (by rfl) T.m__law_take T.k__law_take T.b__law_take .nil pass0 (pa_cons (pv 0) (pa_cons (pv 3) pa_nil)))) (pa_cons (pe_call G__law_take hr__law_take (by rfl) T.m__law_take T.k__law_take T.b__law_take .nil pass0 (pa_cons (pv 0) (pa_cons pe_int pa_nil))) pa_nil)))) pa_nil))))
      (pss_one (ps_expr (pe_bm PySem.F.plainAttrs_list PySem.F.slot_list_append PySem.F.type_list_append mt_append (pv 4) (pa_cons (pe_lst (pa_cons (pv 6) (pa_cons (pe_cmpR op_eq (pe_call G__law_take hr__law_take (by rfl) T.m__law_take T.k__law_take T.b__law_take .nil pass0 (pa_cons (pv 0) (pa_cons pe_int pa_nil))) pe_int (nomark _)) pa_nil))) pa_nil))))))
      (pss_cons (ps_par (i := 7) (j := 8) (by rfl) nd rfl rfl (by decide) rfl rfl (pa_cons (pe_call G__law_take hr__law_take (by rfl) T.m__law_take T.k__law_take T.b__law_take .nil pass0 (pa_cons (pv 0) (pa_cons (pe_callB (lenK K) (by rfl) T.z_len (by decide +kernel) (pa_cons (pv 4) pa_nil)) pa_nil))) (pa_cons (pe_call G__law_take hr__law_take (by rfl) T.m__law_take T.k__law_take T.b__law_take .nil pass0 (pa_cons (pv 0) (pa_cons (pe_callB (lenK K) (by rfl) T.z_len (by decide +kernel) (pa_cons (pv 4) pa_nil)) pa_nil))) pa_nil)) (by rfl))
      (pss_cons (ps_asg (pe_tup (pa_cons (pe_callB (call_max2 rfl) (by rfl) T.z_max (by decide +kernel) (pa_cons pe_int (pa_cons (pe_ix (ixK K) (pe_ix (ixK K) (pv 4) (pv 7) (fun _ _ => rfl)) pe_int (fun _ _ => rfl)) pa_nil))) (pa_cons pe_bl pa_nil))) (pg_tupK K 2 (by rfl) (pgs_cons (pg_sub (pe_ix (ixK K) (pv 4) (pv 7) (fun _ _ => rfl)) pe_int set_list) (pgs_cons (pg_sub (pe_ix (ixK K) (pv 4) (pv 8) (fun _ _ => rfl)) pe_int set_list) pgs_nil))))
      (pss_cons (ps_par (i := 9) (j := 10) (by rfl) nd rfl rfl (by decide) rfl rfl (pa_cons (pe_callB (sumK K) (by rfl) T.z_sum (by decide +kernel) (pa_cons (pe_lc (own := [("_law_pair", 12)]) (by rfl) nd (pi_listK K (pv 4)) (blkOk_by (N := N__law_nest) (own := [("_law_pair", 12)]) (sc := defScope s__law_nest) (by decide +kernel)) (fun _ _ _ _ _ => pg_name (i := 12) nd rfl (Or.inl rfl)) (fun _ _ _ _ _ => pts_nil) (fun _ _ _ _ _ => (pe_ix (ixK K) (pv 12) pe_int (fun _ _ => rfl)))) pa_nil)) (pa_cons (pe_lst pa_nil) pa_nil)) (by rfl))
      (pss_cons (ps_for PassesOwn.never rfl (pi_range1 (by rfl) T.z_range (pa_cons (pe_op op_add pe_int (pe_call G__law_take hr__law_take (by rfl) T.m__law_take T.k__law_take T.b__law_take .nil pass0 (pa_cons (pv 0) (pa_cons (pv 2) pa_nil)))) pa_nil)) (pg_name (i := 5) nd rfl (Or.inl rfl)) (pss_one (ps_expr (pe_bm PySem.F.plainAttrs_list PySem.F.slot_list_append PySem.F.type_list_append mt_append (pv 10) (pa_cons (pe_op op_add pe_int (pe_call G__law_take hr__law_take (by rfl) T.m__law_take T.k__law_take T.b__law_take .nil pass0 (pa_cons (pv 0) (pa_cons (pe_call G__law_of hr__law_of (by rfl) T.m__law_of T.k__law_of T.b__law_of .nil pass0 (pa_cons (pv 0) (pa_cons (pe_lst (pa_cons pe_int (pa_cons (pv 9) (pa_cons (pe_op op_mul pe_int (pv 9)) pa_nil)))) pa_nil))) pa_nil)))) pa_nil)))))
      (pss_cons (ps_set (i := 11) nd rfl (Or.inl rfl) (pe_call G__law_of hr__law_of (by rfl) T.m__law_of T.k__law_of T.b__law_of .nil pass0 (pa_cons (pv 0) (pa_cons (pe_lst (pa_cons pe_int (pa_cons (pe_call G__law_take hr__law_take (by rfl) T.m__law_take T.k__law_take T.b__law_take .nil pass0 (pa_cons (pv 0) (pa_cons pe_int pa_nil))) (pa_cons (pe_call G__law_take hr__law_take (by rfl) T.m__law_take T.k__law_take T.b__law_take .nil pass0 (pa_cons (pv 0) (pa_cons (pe_op op_add (pv 9) pe_int) pa_nil))) (pa_cons (pv 9) pa_nil))))) pa_nil))))
      (pss_one (ps_ret (pe_tup (pa_cons (pe_callTy (tupK K) (by rfl) T.z_tuple (by decide +kernel) (pa_cons (pe_lc (own := [("_law_pair", 12)]) (by rfl) nd (pi_listK K (pv 4)) (blkOk_by (N := N__law_nest) (own := [("_law_pair", 12)]) (sc := defScope s__law_nest) (by decide +kernel)) (fun _ _ _ _ _ => pg_name (i := 12) nd rfl (Or.inl rfl)) (fun _ _ _ _ _ => pts_nil) (fun _ _ _ _ _ => (pe_callTy (tupK K) (by rfl) T.z_tuple (by decide +kernel) (pa_cons (pv 12) pa_nil)))) pa_nil)) (pa_cons (pe_callTy (tupK K) (by rfl) T.z_tuple (by decide +kernel) (pa_cons (pv 10) pa_nil)) (pa_cons (pv 11) pa_nil))))))))))))), ?_⟩
    walk_at "un"
    -- year = []
    refine ⟨Nat.zero_le _, fun y hy => ?_⟩
    have x1 : Ex [] H (upd H y (.lst [])) := Ex.new hy
    have hby : b ≠ y := (hB.ne hy).symm
    -- for k in range(1 + take(box, length))
    refine ⟨_, rfl, _, rfl, b, len, n, rfl, hB.ex x1 (by simp), by omega, l1, by omega, fun r H1 r0 r1 x2 B2 => ?_⟩
    have Y0 : YearAt b y [] [] H1 := YearAt.ex ⟨by rw [upd_same]; rfl, rfl, fun j a d h _ => by simp at h, List.nodup_nil, by simp, by simp, hby⟩ x2
    refine ⟨_, _, rfl, rfl, _, rfl, by omega, by omega, ?_⟩
    have x12 := (Ex.nil (B := [b]) x1).trans x2
    refine for_range (lo := 0) (n := (1 + r).toNat) (fun i σ H' => ∃ (as : List Addr) (c : List (Int × Bool)) (u1 u2 : Option V), σ = [some (.ref b), some (.int len), some (.int size), some (.int wide), some (.ref y), u1, u2, none, none, none, none, none, none] ∧ c.length = i ∧ YearAt b y as c H' ∧ (∀ d ∈ c, 0 ≤ d.1 ∧ d.1 ≤ 10 ^ 11) ∧ (∀ d ∈ c, d.1 ≤ wide + 3) ∧ Ex [b] H H' ∧ Bx b (n + 16 + 100 * i) H' ∧ ∀ a ∈ as, H a = none)
      ⟨[], [], none, none, rfl, rfl, Y0, by simp, by simp, x12, B2, by simp⟩ (fun i σ H' hi hP => ?_) (fun σ H' hP => ?_)
    · obtain ⟨as, c, u1, u2, rfl, lc, hY, hc, hcw, x3, B3, hna⟩ := hP
      have hi' : (i : Int) < 1 + r := by omega
      refine ⟨_, rfl, _, rfl, _, rfl, b, wide, _, rfl, B3, by omega, w1, by omega, fun r1 H2 a0 a1 x4 B4 => ?_⟩
      refine ⟨_, _, rfl, rfl, _, rfl, b, 3, _, rfl, B4, by omega, by decide, by decide, fun r2 H3 c0 c1 x5 B5 => ⟨(by show 3 ≤ sizeLine; decide), fun p hp => ?_⟩⟩
      have x6 : Ex [] H3 (upd H3 p (.lst [.int 0, .int (1 + r1), .int r2])) := Ex.new hp
      refine ⟨b, p, _, _, rfl, B5.ex x6 (by simp), by omega, sq_new B5 hp, (by show 1 ≤ 3; decide), (by show 3 ≤ 1000; decide), fun v H4 hv x7 B7 => ?_⟩
      have hv' : ∃ z : Int, v = .int z ∧ 0 ≤ z ∧ z ≤ 10 ^ 11 ∧ z ≤ wide + 3 := by
        simp only [List.mem_cons, List.not_mem_nil, or_false] at hv
        rcases hv with rfl | rfl | rfl
        · exact ⟨_, rfl, by decide, by decide, by omega⟩
        · exact ⟨_, rfl, by omega, by omega, by omega⟩
        · exact ⟨_, rfl, by omega, by omega, by omega⟩
      obtain ⟨z, rfl, z1, z2, z3⟩ := hv'
      have x47 := ((x4.trans x5).trans (Ex.nil x6)).trans x7
      have hY4 := hY.ex x47
      refine ⟨_, rfl, .inl ⟨rfl, _, SqL.of hY4.ly⟩, _, rfl, _, rfl, b, 2, _, rfl, B7, by omega, by decide, by decide, fun r3 H5 e0 e1 x8 B8 => ?_⟩
      refine ⟨rfl, (by show 2 ≤ sizeLine; decide), fun p2 hp2 => ?_⟩
      have hY5 := hY4.ex x8
      have x9 : Ex [] H5 (upd H5 p2 (.lst [.int z, .bl (decide (V.int r3 = V.int 0))])) := Ex.new hp2
      have hY6 := hY5.ex (Ex.nil x9)
      refine ⟨y, _, _, rfl, rfl, hY6.ly, ?_, ?_⟩
      · rw [List.length_map, hY6.len]
        exact sz_lt (by omega)
      · have hf := hY5.fresh hp2
        refine ⟨as ++ [p2], c ++ [(z, decide (V.int r3 = V.int 0))], _, _, rfl, by rw [List.length_append, lc]; rfl, hY6.push upd_same hf.1 hf.2 (B8.ne hp2), fun d hd => ?_, fun d hd => ?_, ?_, ?_, fun a ha => ?_⟩
        · rcases List.mem_append.mp hd with hd | hd
          · exact hc d hd
          · rw [List.mem_singleton.mp hd]
            exact ⟨z1, z2⟩
        · rcases List.mem_append.mp hd with hd | hd
          · exact hcw d hd
          · rw [List.mem_singleton.mp hd]
            exact z3
        · exact ((x3.trans x47).trans (x8.trans (Ex.nil x9))).mutNew' hy
        · refine Bx.ex (B := [y]) (Bx.mono (B8.ex x9 (by simp)) (by omega)) (Ex.mut (by simp)) (by simpa using hby)
        · rcases List.mem_append.mp ha with ha | ha
          · exact hna a ha
          · rw [List.mem_singleton.mp ha]
            exact x3.free (x47.free (x8.free hp2))
    · obtain ⟨as, c, u1, u2, rfl, lc, hY, hc, hcw, x3, B3, hna⟩ := hP
      have lc1 : 1 ≤ c.length := by omega
      have lc2 : c.length ≤ 12 := by omega
      have lcB : n + 16 + 100 * (1 + r).toNat ≤ n + 1300 := by omega
      have B3 := B3.mono lcB
      clear lcB
      -- wet, lit
      refine ⟨_, rfl, _, rfl, _, _, rfl, .inl (SqL.of hY.ly), ?_⟩
      rw [List.length_map, hY.len]
      refine ⟨b, _, _, rfl, B3, by omega, by omega, by omega, fun wt H4 wt0 wt1 x4 B4 => ?_⟩
      have hY4 := hY.ex x4
      refine ⟨_, rfl, _, rfl, _, _, rfl, .inl (SqL.of hY4.ly), ?_⟩
      rw [List.length_map, hY.len]
      refine ⟨b, _, _, rfl, B4, by omega, by omega, by omega, fun lt H5 lt0 lt1 x5 B5 => ?_⟩
      have hY5 := hY4.ex x5
      refine ⟨_, _, rfl, ?_⟩
      have x35 := x3.trans (x4.trans x5)
      clear x4 x5 B4 hY4 hY
      obtain ⟨wn, rfl⟩ : ∃ wn : Nat, wt = wn := ⟨wt.toNat, by omega⟩
      obtain ⟨ln, rfl⟩ : ∃ ln : Nat, lt = ln := ⟨lt.toNat, by omega⟩
      have hwn : wn < c.length := by omega
      have hln : ln < c.length := by omega
      obtain ⟨aw, haw, hHw⟩ := hY5.mem hwn
      refine ⟨_, rfl, _, rfl, z_ix (.inl (SqL.of hY5.ly)) (v := .ref aw) (atI_nat (by rw [List.getElem?_map, haw]; rfl)) (z_ixL hHw rfl ⟨_, _, rfl, (by show 2 ≤ sizeLine; decide), fun tp htp => ?_⟩)⟩
      generalize hM : (if (c[wn]'hwn).1 > 1 then (c[wn]'hwn).1 else 1) = M
      have M1 : 1 ≤ M := by rw [← hM]; split <;> omega
      have M2 : M ≤ 10 ^ 11 := by rw [← hM]; have := (hc _ (List.getElem_mem hwn)).2; split <;> omega
      have M3 : M ≤ wide + 3 := by rw [← hM]; have := hcw _ (List.getElem_mem hwn); split <;> omega
      have xt : Ex [] H5 (upd H5 tp (.tup [.int M, .bl true])) := Ex.new htp
      have hYt := hY5.ex (Ex.nil xt)
      refine ⟨tp, _, rfl, SqT.of upd_same, rfl, _, _, rfl, _, rfl, _, rfl, z_ix (.inl (SqL.of hYt.ly)) (v := .ref aw) (atI_nat (by rw [List.getElem?_map, haw]; rfl)) ⟨aw, _, 0, 0, rfl, rfl, xt.1 _ _ (by simp) hHw, rfl, ?_⟩⟩
      have hYw := hYt.set (w := wn) (z := M) (f := (c[wn]'hwn).2) haw
      have hln2 : ln < (c.set wn (M, (c[wn]'hwn).2)).length := by rw [List.length_set]; exact hln
      obtain ⟨al, hal, hHl⟩ := hYw.mem hln2
      refine ⟨_, _, rfl, _, rfl, _, rfl, z_ix (.inl (SqL.of hYw.ly)) (v := .ref al) (atI_nat (by rw [List.getElem?_map, hal]; rfl)) ⟨al, _, 1, 1, rfl, rfl, hHl, rfl, rfl, ?_⟩⟩
      have hYl := hYw.set (w := ln) (z := ((c.set wn (M, (c[wn]'hwn).2))[ln]'hln2).1) (f := true) hal
      have okc := year_fix (f := (c[wn]'hwn).2) (f' := ((c.set wn (M, (c[wn]'hwn).2))[ln]'hln2).2) (d' := ((c.set wn (M, (c[wn]'hwn).2))[ln]'hln2).1) hwn hln hc M1 M2 (List.getElem?_eq_getElem hln2)
      have x6 := ((x35.trans (Ex.nil xt)).mutNew' (o := .lst [.int M, .bl (c[wn]'hwn).2]) (hna aw (List.mem_of_getElem? haw))).mutNew' (o := .lst [.int ((c.set wn (M, (c[wn]'hwn).2))[ln]'hln2).1, .bl true]) (hna al (List.mem_of_getElem? hal))
      have B6 : Bx b (n + 1300 + 16 + 16) (upd (upd (upd H5 tp (.tup [.int M, .bl true])) aw (.lst [.int M, .bl (c[wn]'hwn).2])) al (.lst [.int ((c.set wn (M, (c[wn]'hwn).2))[ln]'hln2).1, .bl true])) := by
        have n1 : b ∉ [aw] := by simpa using fun z : b = aw => hY5.nb (z ▸ List.mem_of_getElem? haw)
        have n2 : b ∉ [al] := by simpa using fun z : b = al => hY5.nb (z ▸ List.mem_of_getElem? hal)
        exact ((B5.ex xt (by simp)).ex (Ex.mut (by simp)) n1).ex (Ex.mut (by simp)) n2
      have okw : ∀ d ∈ (c.set wn (M, (c[wn]'hwn).2)).set ln (((c.set wn (M, (c[wn]'hwn).2))[ln]'hln2).1, true), d.1 ≤ wide + 3 := by
        have o1 : ∀ d ∈ c.set wn (M, (c[wn]'hwn).2), d.1 ≤ wide + 3 := fun d hd => by
          rcases List.mem_or_eq_of_mem_set hd with z | rfl
          · exact hcw d z
          · exact M3
        intro d hd
        rcases List.mem_or_eq_of_mem_set hd with z | rfl
        · exact o1 d z
        · exact o1 ((c.set wn (M, (c[wn]'hwn).2))[ln]'hln2) (List.getElem_mem hln2)
      generalize (c.set wn (M, (c[wn]'hwn).2)).set ln (((c.set wn (M, (c[wn]'hwn).2))[ln]'hln2).1, true) = c2 at hYl okc okw
      dsimp only [List.set_cons_zero, List.set_cons_succ]
      revert hYl x6 B6
      generalize (upd (upd (upd H5 tp (.tup [.int M, .bl true])) aw (.lst [.int M, .bl (c[wn]'hwn).2])) al (.lst [.int ((c.set wn (M, (c[wn]'hwn).2))[ln]'hln2).1, .bl true])) = H6
      intro x6 B6 hYl
      clear hYw hHl hHw hYt xt htp hY5 B5 x35 x3 hal
      have lc2' := okc.len
      have hW : (c2.map (·.1)).sum ≤ 12 * 10 ^ 11 := by
        have h1 : (c2.map (·.1)).sum ≤ (c2.map (·.1)).length * (10 ^ 11 : Int) := sum_le (by decide) fun x hx => by
          obtain ⟨d, hd, rfl⟩ := List.mem_map.mp hx
          exact (okc.bd d hd).2
        rw [List.length_map, lc2'] at h1
        have : ((c.length : Nat) : Int) * (10 ^ 11 : Int) ≤ 12 * 10 ^ 11 := by omega
        omega
      have hWw : (c2.map (·.1)).sum ≤ 12 * (wide + 3) := by
        have h1 : (c2.map (·.1)).sum ≤ (c2.map (·.1)).length * (wide + 3) := sum_le (by omega) fun x hx => by
          obtain ⟨d, hd, rfl⟩ := List.mem_map.mp hx
          exact okw d hd
        rw [List.length_map, lc2'] at h1
        exact Int.le_trans h1 (Int.mul_le_mul_of_nonneg_right (by omega) (by omega))
      have hW0 := okc.dr
      walk_at "un"
      -- whole
      refine z_lcL (B := []) (C := []) (xs := as.map V.ref) (fun R r => ⟨_, rfl, r y H6 (Ex.refl _ _) (by rw [wo_nil]; exact SqL.of hYl.ly)⟩)
        (fun i v _ => ∃ d, c2[i]? = some d ∧ v = .int d.1) (fun _ _ => True) (fun H7 x7 => ⟨lcOk0 (by rw [List.length_map, hYl.len]; omega), fun i x _ hx D H8 hD' nB e1 _ tD N hN => ?_, fun D zs H8 hD' hz lz rz e1 _ => ?_⟩)
      · rw [List.getElem?_map] at hx
        obtain ⟨a, ha, rfl⟩ := Option.map_eq_some_iff.mp hx
        have hi : i < c2.length := by rw [← hYl.len]; exact (List.getElem?_eq_some_iff.mp ha).1
        have hHa := (x7.trans e1).1 _ _ (by simp) (hYl.at_ i a _ ha (List.getElem?_eq_getElem hi))
        exact ⟨rfl, _, rfl, z_ixL hHa rfl (hN _ H8 (Ex.refl _ _) ⟨_, List.getElem?_eq_getElem hi, rfl⟩ trivial)⟩
      have ez := ys_ints (f := fun d : Int × Bool => d.1) (by rw [lz, List.length_map, hYl.len]) rz
      refine ⟨D, _, rfl, .inl (SqL.of (by rw [hz, ez])), Nat.zero_le _, fun wl hwl => ⟨_, _, rfl, ?_⟩⟩
      generalize hWe : (c2.map fun d : Int × Bool => d.1).sum = W at hW hW0 hWw
      have x8 := (x7.trans e1).trans (Ex.new (o := HO.lst []) hwl)
      have hYn := hYl.ex (Ex.nil (x7.trans e1))
      have hfw := hYn.fresh hwl
      have hYo := hYn.other (o := .lst []) hfw.1 hfw.2
      have B8 := B6.ex x8 (by simp)
      have nwl := (B6.ex (x7.trans e1) (by simp)).ne hwl
      have wl0 : H wl = none := x6.free ((x7.trans e1).free hwl)
      -- wants
      refine ⟨_, rfl, _, rfl, b, size, _, rfl, B8, by omega, s1, by omega, fun r4 H9 r40 r41 x9 B9 => ?_⟩
      refine ⟨_, _, rfl, rfl, _, rfl, by omega, by omega, ?_⟩
      have x69 := (x6.trans (Ex.nil x8)).trans x9
      refine for_range (lo := 0) (n := (1 + r4).toNat) (fun i σ H' => ∃ (ms : List Int) (u1 u2 : Option V), σ = [some (.ref b), some (.int len), some (.int size), some (.int wide), some (.ref y), u1, u2, some (.int wn), some (.int ln), some (.int W), some (.ref wl), none, none] ∧ ms.length = i ∧ H' wl = some (.lst (ms.map V.int)) ∧ (∀ m ∈ ms, 1 ≤ m ∧ m ≤ 10 ^ 14) ∧ (∀ m ∈ ms, m ≤ 2 * W + 2) ∧ YearAt b y as c2 H' ∧ Ex [b] H H' ∧ Bx b (n + 1348 + 100 * i) H')
        ⟨[], _, _, rfl, rfl, x9.1 _ _ (by simpa using nwl) upd_same, by simp, by simp, hYo.ex x9, x69, B9.mono (by omega)⟩ (fun i σ H' hi hP => ?_) (fun σ H' hP => ?_)
      · obtain ⟨ms, v1, v2, rfl, lm, hm, hms, hmw, hY', x10, B10⟩ := hP
        have hi' : (i : Int) < 1 + r4 := by omega
        refine ⟨_, rfl, .inl ⟨rfl, _, SqL.of hm⟩, _, rfl, _, rfl, _, rfl, _, rfl, _, _, rfl, rfl, .inl ⟨by omega, by omega⟩, (by show 3 ≤ sizeLine; decide), fun p hp => ?_⟩
        have x11 : Ex [] H' (upd H' p (.lst [.int 2, .int W, .int (2 * W)])) := Ex.new hp
        refine ⟨b, p, _, _, rfl, B10.ex x11 (by simp), by omega, sq_new B10 hp, (by show 1 ≤ 3; decide), (by show 3 ≤ 1000; decide), fun v H11 hv x12 B12 => ?_⟩
        have hv' : ∃ z : Int, v = .int z ∧ 1 ≤ z ∧ z ≤ 2 * (12 * 10 ^ 11) + 2 ∧ z ≤ 2 * W + 1 := by
          simp only [List.mem_cons, List.not_mem_nil, or_false] at hv
          rcases hv with rfl | rfl | rfl
          · exact ⟨_, rfl, by decide, by decide, by omega⟩
          · exact ⟨_, rfl, by omega, by omega, by omega⟩
          · exact ⟨_, rfl, by omega, by omega, by omega⟩
        obtain ⟨z, rfl, z1, z2, z3'⟩ := hv'
        refine ⟨b, z, _, rfl, B12, by omega, z1, by omega, fun r5 H12 r50 r51 x13 B13 => ?_⟩
        have x14 := ((Ex.nil (B := [b]) x11).trans x12).trans x13
        have hm2 := x14.1 _ _ (by simpa using nwl) hm
        refine ⟨_, _, rfl, rfl, wl, _, _, rfl, rfl, hm2, ?_, ?_⟩
        · rw [List.length_map]; exact sz_lt (by omega)
        · refine ⟨ms ++ [1 + r5], _, _, rfl, by rw [List.length_append, lm]; rfl, by rw [upd_same, List.map_append]; rfl, fun m hm' => ?_, fun m hm' => ?_, (hY'.ex x14).other hfw.1 hfw.2, (x10.trans x14).mutNew' wl0, ?_⟩
          · rcases List.mem_append.mp hm' with h | h
            · exact hms m h
            · rw [List.mem_singleton.mp h]; omega
          · rcases List.mem_append.mp hm' with h | h
            · exact hmw m h
            · rw [List.mem_singleton.mp h]; omega
          · exact Bx.ex (B := [wl]) (B13.mono (by omega)) (Ex.mut (by simp)) (by simpa using nwl.symm)
      · obtain ⟨ms, v1, v2, rfl, lm, hm, hms, hmw, hY', x10, B10⟩ := hP
        have B10 := B10.mono (show n + 1348 + 100 * (1 + r4).toNat ≤ n + 2000 by omega)
        walk_at "un"
        -- cap
        refine ⟨_, rfl, _, rfl, b, 4, _, rfl, B10, by omega, by decide, by decide, fun r6 H11 r60 r61 x11 B11 => ?_⟩
        refine ⟨_, rfl, _, rfl, _, _, rfl, rfl, b, W + 1, _, rfl, B11, by omega, by omega, by omega, fun r7 H12 r70 r71 x12 B12 => ?_⟩
        refine ⟨_, rfl, (by show 4 ≤ sizeLine; decide), fun p hp => ?_⟩
        have x13 : Ex [] H12 (upd H12 p (.lst [.int 0, .int r6, .int r7, .int W])) := Ex.new hp
        refine ⟨b, p, _, _, rfl, B12.ex x13 (by simp), by omega, sq_new B12 hp, (by show 1 ≤ 4; decide), (by show 4 ≤ 1000; decide), fun v H14 hv x14 B14 => ?_⟩
        have hv' : ∃ z : Int, v = .int z ∧ 0 ≤ z ∧ z ≤ W + 3 := by
          simp only [List.mem_cons, List.not_mem_nil, or_false] at hv
          rcases hv with rfl | rfl | rfl | rfl
          · exact ⟨_, rfl, by decide, by omega⟩
          · exact ⟨_, rfl, by omega, by omega⟩
          · exact ⟨_, rfl, by omega, by omega⟩
          · exact ⟨_, rfl, by omega, by omega⟩
        obtain ⟨z, rfl, z1, z2⟩ := hv'
        have x15 := ((x11.trans x12).trans (Ex.nil x13)).trans x14
        have hY14 := hY'.ex x15
        have hm14 := x15.1 _ _ (by simpa using nwl) hm
        have x16 := x10.trans x15
        -- the tuples
        refine z_lcL (B := [b]) (C := []) (xs := as.map V.ref) (fun R r => ⟨_, rfl, r y H14 (Ex.refl _ _) (SqL.of (wo_of (by simpa using hby.symm) hY14.ly))⟩)
          (fun i v G => ∃ d, c2[i]? = some d ∧ Dp K G v (sq true [.int d.1, .bool d.2])) (fun _ _ => True)
          (fun H15 x17 => ⟨⟨fun a ha hn => ?_, fun _ h => (by cases h), fun i y G G' le ⟨d, h1, h2⟩ => ⟨d, h1, dp_le le _ _ h2⟩, fun _ _ _ _ _ _ _ _ => trivial, trivial, by rw [List.length_map, hY14.len]; omega⟩, fun i x _ hx D2 H16 hD2 nB e1 _ tD N hN => ?_, fun D2 zs2 H16 hD2 hz2 lz2 rz2 e1 _ => ?_⟩)
        · rw [List.mem_singleton.mp ha] at hn
          exact B14.there (x17.2 b hn)
        · rw [List.getElem?_map] at hx
          obtain ⟨a, ha, rfl⟩ := Option.map_eq_some_iff.mp hx
          have hi : i < c2.length := by rw [← hY14.len]; exact (List.getElem?_eq_some_iff.mp ha).1
          have hHa := (x17.trans e1).1 _ _ (by simp) (hY14.at_ i a _ ha (List.getElem?_eq_getElem hi))
          refine ⟨rfl, _, rfl, a, _, rfl, .inl ⟨SqL.of hHa, fun p2 hp2 => ?_⟩⟩
          refine hN _ _ (Ex.new hp2) ⟨_, List.getElem?_eq_getElem hi, ?_⟩ trivial
          have nb2 : p2 ≠ b := fun q => B14.there (x17.2 b (e1.2 b (by rw [← q]; exact hp2)))
          have nD2 : p2 ≠ D2 := fun q => tD (by rw [← q]; exact hp2)
          exact .tup (SqT.of (wo_of (by simp [nb2, nD2]) upd_same)) (.cons (.int _) (.cons (.bl _) .nil))
        · have x18 := x17.trans e1
          refine ⟨D2, zs2, rfl, .inl ⟨SqL.of hz2, fun t1 ht1 => ?_⟩⟩
          have y1 : Ex [] H16 (upd H16 t1 (.tup zs2)) := Ex.new ht1
          refine ⟨_, rfl, wl, _, rfl, .inl ⟨SqL.of (y1.1 _ _ (by simp) (x18.1 _ _ (by simp) hm14)), fun t2 ht2 => ?_⟩⟩
          have y2 : Ex [] (upd H16 t1 (.tup zs2)) (upd (upd H16 t1 (.tup zs2)) t2 (.tup (ms.map V.int))) := Ex.new ht2
          refine ⟨_, rfl, (by show 3 ≤ sizeLine; decide), fun t3 ht3 => ?_⟩
          have y3 : Ex [] (upd (upd H16 t1 (.tup zs2)) t2 (.tup (ms.map V.int))) (upd (upd (upd H16 t1 (.tup zs2)) t2 (.tup (ms.map V.int))) t3 (.tup [.ref t1, .ref t2, .int z])) := Ex.new ht3
          have xa := (x18.trans y1)
          have nb1 : t1 ≠ b := fun q => B14.there (x18.2 b (by rw [← q]; exact ht1))
          have nb2 : t2 ≠ b := fun q => B14.there (xa.2 b (by rw [← q]; exact ht2))
          have nb3 : t3 ≠ b := fun q => B14.there ((xa.trans y2).2 b (by rw [← q]; exact ht3))
          refine q ⟨c2, ms, z⟩ _ _ ⟨by show 1 ≤ c2.length; omega, by show c2.length ≤ 20; omega, fun d hd => ?_, okc.op, by show 0 < (c2.map (·.1)).sum; exact okc.dr, by show 1 ≤ ms.length; omega, by show ms.length ≤ 20; omega, hms, z1, (by show z ≤ 10 ^ 14; have t : (10 : Int) ^ 14 = 100000000000000 := (by decide); omega)⟩ ⟨by show z ≤ (c2.map (·.1)).sum + 3; exact hWe ▸ z2, by show (c2.map (·.1)).sum ≤ _; exact hWe ▸ hWw, fun m hm' => (by show m ≤ 2 * (c2.map (·.1)).sum + 2; exact hWe ▸ hmw m hm'), by show ((c2.length : Nat) : Int) ≤ len; omega, by show ((ms.length : Nat) : Int) ≤ size; omega⟩ ?_ ((x16.trans (Ex.nil (xa.trans y2))).trans (Ex.nil y3)) ?_
          · have := okc.bd d hd
            exact ⟨this.1, by omega⟩
          · refine .tup (SqT.of (wo_of (by simpa using nb3) upd_same)) (.cons ?_ (.cons ?_ (.cons (.int z) .nil)))
            · refine dp_le (Ex.nil (y2.trans y3)).le _ _ (.tup (SqT.of (wo_of (by simpa using nb1) upd_same)) (dpa_of (by rw [lz2, List.length_map, List.length_map, hY14.len]) fun i v hv => ?_))
              obtain ⟨d, h1, h2⟩ := rz2 i v hv
              exact ⟨_, by rw [List.getElem?_map, h1]; rfl, dp_le (Ex.nil y1).le _ _ h2⟩
            · exact dp_le (Ex.nil y3).le _ _ (.tup (SqT.of (wo_of (by simpa using nb2) upd_same)) (dpa_of_ints ms))
          · exact Bx.mono (B14.ex ((x18.trans y1).trans (y2.trans y3)) (by simp)) (by omega)
end
end Z64
set_option Elab.async false
set_option linter.all false
namespace Hz
open PySem
/-- how a hill stands -/
structure Now where
  day : Nat
  ant : Nat
  pot : Int
namespace Hill
def need (h : Hill) (i : Nat) : Int := (h.needs[i]?).getD 0
structure At (h : Hill) (s : Now) : Prop where
  op : h.isOpen s.day = true
  an : s.ant < h.needs.length
  p0 : 0 ≤ s.pot
  p1 : s.pot ≤ h.most
/-- what the pot would hold, one need taken, on evening m -/
def over (h : Hill) (s : Now) (m : Nat) : Int := s.pot + h.given m - h.given s.day - h.need s.ant
/-- the evening of the next turn -/
def Eve (h : Hill) (s : Now) (m : Nat) : Prop := s.day ≤ m ∧ h.isOpen m = true ∧ 0 ≤ h.over s m ∧ ∀ k, s.day ≤ k → k < m → h.isOpen k = true → h.over s k < 0
theorem eve_uniq {h : Hill} {s : Now} {a b : Nat} (x : h.Eve s a) (y : h.Eve s b) : a = b := by
  obtain ⟨x1, x2, x3, x4⟩ := x
  obtain ⟨y1, y2, y3, y4⟩ := y
  rcases Nat.lt_trichotomy a b with c | c | c
  · have := y4 a x1 c x2; omega
  · exact c
  · have := x4 b y1 c y2; omega
def goes (h : Hill) (s : Now) (m : Nat) : Now × Int := (⟨m, (s.ant + 1) % h.needs.length, min (h.over s m) h.most⟩, h.over s m - min (h.over s m) h.most)
def Turn (h : Hill) (s : Now) (r : Now × Int) : Prop := ∃ m, h.Eve s m ∧ r = h.goes s m
theorem turn_uniq {h : Hill} {s : Now} {a b : Now × Int} (x : h.Turn s a) (y : h.Turn s b) : a = b := by
  obtain ⟨m, x, rfl⟩ := x
  obtain ⟨n, y, rfl⟩ := y
  rw [eve_uniq x y]
theorem turn_at {h : Hill} {s : Now} {r : Now × Int} (hm : 0 ≤ h.most) (a : h.At s) (x : h.Turn s r) : h.At r.1 := by
  obtain ⟨m, ⟨x1, x2, x3, x4⟩, rfl⟩ := x
  exact ⟨x2, Nat.mod_lt _ (by have := a.an; omega), Int.le_min.mpr ⟨x3, hm⟩, Int.min_le_right _ _⟩
/-- a row of turns -/
def Rows (h : Hill) : Now → List (Now × Int) → Prop
  | _, [] => True
  | s, r :: l => h.Turn s r ∧ Rows h r.1 l
theorem rows_uniq {h : Hill} : ∀ {l l' : List (Now × Int)} {s : Now}, h.Rows s l → h.Rows s l' → l.length = l'.length → l = l'
  | [], [], _, _, _, _ => rfl
  | [], _ :: _, _, _, _, e => by simp at e
  | _ :: _, [], _, _, _, e => by simp at e
  | a :: l, b :: l', s, x, y, e => by
    obtain rfl := turn_uniq x.1 y.1
    rw [rows_uniq x.2 y.2 (by simpa using e)]
/-- how all stands behind a row -/
def lastOf (s : Now) : List (Now × Int) → Now
  | [] => s
  | r :: l => lastOf r.1 l
theorem rows_at {h : Hill} (hm : 0 ≤ h.most) : ∀ {l : List (Now × Int)} {s : Now}, h.At s → h.Rows s l → h.At (lastOf s l)
  | [], _, a, _ => a
  | r :: l, s, a, x => rows_at (l := l) (s := r.1) hm (turn_at hm a x.1) x.2
theorem rows_mem {h : Hill} (hm : 0 ≤ h.most) : ∀ {l : List (Now × Int)} {s : Now}, h.At s → h.Rows s l → ∀ r ∈ l, h.At r.1
  | [], _, _, _, _, hr => by simp at hr
  | r :: l, s, a, x, q, hq => by
    rcases List.mem_cons.mp hq with rfl | hq
    · exact turn_at hm a x.1
    · exact rows_mem hm (turn_at hm a x.1) x.2 q hq
theorem rows_snoc {h : Hill} : ∀ {l : List (Now × Int)} {s : Now} {r : Now × Int}, h.Rows s l → h.Turn (lastOf s l) r → h.Rows s (l ++ [r])
  | [], _, _, _, y => ⟨y, trivial⟩
  | _ :: _, _, _, x, y => ⟨x.1, rows_snoc x.2 y⟩
theorem last_snoc : ∀ {l : List (Now × Int)} {s : Now} {r : Now × Int}, lastOf s (l ++ [r]) = r.1
  | [], _, _ => rfl
  | _ :: l, _, _ => last_snoc (l := l)
theorem last_take : ∀ {l : List (Now × Int)} {s : Now} {n : Nat} {r : Now × Int}, l[n]? = some r → lastOf s (l.take (n + 1)) = r.1
  | r :: l, s, 0, q, e => by simp at e; subst e; rfl
  | r :: l, s, n + 1, q, e => last_take (l := l) (s := r.1) (by simpa using e)
  | [], _, _, _, e => by simp at e
theorem rows_drop {h : Hill} : ∀ {l : List (Now × Int)} {s : Now} (n : Nat), h.Rows s l → h.Rows (lastOf s (l.take n)) (l.drop n)
  | l, s, 0, x => by simpa [lastOf] using x
  | [], s, n + 1, x => by simp [Rows]
  | r :: l, s, n + 1, x => rows_drop (l := l) (s := r.1) n x.2
theorem rows_take {h : Hill} : ∀ {l : List (Now × Int)} {s : Now} (n : Nat), h.Rows s l → h.Rows s (l.take n)
  | l, s, 0, x => by simp [Rows]
  | [], s, n + 1, x => by simp [Rows]
  | r :: l, s, n + 1, x => ⟨x.1, rows_take (l := l) (s := r.1) n x.2⟩
/-- two that stand one behind the other in a row -/
theorem rows_next {h : Hill} : ∀ {l : List (Now × Int)} {s : Now} {n : Nat} {a b : Now}, h.Rows s l → (s :: l.map (·.1))[n]? = some a → (l.map (·.1))[n]? = some b → ∃ z, h.Turn a (b, z)
  | [], _, _, _, _, _, _, e => by simp at e
  | r :: l, s, 0, a, b, x, e1, e2 => by
    simp at e1 e2
    subst e1 e2
    exact ⟨r.2, x.1⟩
  | r :: l, s, n + 1, a, b, x, e1, e2 => rows_next (l := l) (s := r.1) x.2 (by simpa using e1) (by simpa using e2)
/-- the first evening by which so much was given is the turn's, when the pot lacks -/
theorem eve_dayOf {h : Hill} {s : Now} {m : Nat} (hN : h.Nn) (hL : 0 < h.L) (c : s.pot < h.need s.ant) (x : h.DayOf (h.given s.day + h.need s.ant - s.pot) m) : h.Eve s m := by
  obtain ⟨x1, x2, x3⟩ := x
  have l : s.day ≤ m := by
    rcases Nat.lt_or_ge m s.day with d | d
    · have := given_mono hN hL (Nat.le_of_lt d); omega
    · exact d
  refine ⟨l, x1, by unfold over; omega, fun k _ k2 k3 => ?_⟩
  have := x3 k k2 k3
  unfold over
  omega
theorem eve_now {h : Hill} {s : Now} (a : h.isOpen s.day = true) (c : h.need s.ant ≤ s.pot) : h.Eve s s.day :=
  ⟨Nat.le_refl _, a, by unfold over; omega, fun k k1 k2 _ => by omega⟩
/-- whole years over which the need isn't met -/
theorem eve_skip {h : Hill} {s : Now} {m k : Nat} (hN : h.Nn) (hL : 0 < h.L) (hd : 0 < h.drops) (c : k = 0 ∨ (k + 1 : Int) * h.drops ≤ h.need s.ant - s.pot) (x : h.Eve ⟨s.day + k * h.L, s.ant, s.pot + k * h.drops⟩ m) : h.Eve s m ∧ h.goes ⟨s.day + k * h.L, s.ant, s.pot + k * h.drops⟩ m = h.goes s m := by
  obtain ⟨x1, x2, x3, x4⟩ := x
  have g := given_year hL s.day k (h := h)
  have e : ∀ j, h.over ⟨s.day + k * h.L, s.ant, s.pot + k * h.drops⟩ j = h.over s j := fun j => by
    unfold over
    show s.pot + k * h.drops + h.given j - h.given (s.day + k * h.L) - h.need s.ant = _
    rw [g]
    omega
  refine ⟨⟨Nat.le_trans (Nat.le_add_right _ _) x1, x2, by rw [← e]; exact x3, fun j j1 j2 j3 => ?_⟩, ?_⟩
  · by_cases q : s.day + k * h.L ≤ j
    · rw [← e]; exact x4 j q j2 j3
    · rcases c with rfl | c
      · exact absurd (by omega) q
      · have m := given_mono hN hL (show j ≤ s.day + k * h.L by omega)
        rw [g] at m
        have e2 : ((k : Int) + 1) * h.drops = k * h.drops + h.drops := by rw [Int.add_mul, Int.one_mul]
        rw [e2] at c
        unfold over
        omega
  · unfold goes
    rw [e]
theorem eve_ex {h : Hill} {s : Now} (hN : h.Nn) (hL : 0 < h.L) (hd : 0 < h.drops) (a : h.isOpen s.day = true) : ∃ m, h.Eve s m := by
  by_cases c : s.pot < h.need s.ant
  · obtain ⟨m, x⟩ := dayOf_ex hN hL ⟨_, List.mem_of_getElem? (at_day hL s.day).choose_spec.1, by rw [← (at_day hL s.day).choose_spec.2.2]; exact a⟩ hd (h.given s.day + h.need s.ant - s.pot)
    exact ⟨m, eve_dayOf hN hL c x⟩
  · exact ⟨_, eve_now a (Int.not_lt.mp c)⟩
end Hill
abbrev Now.dat (t : Bool) (s : Now) : PyData := sq t [.int s.day, .int s.ant, .int s.pot]
abbrev rowD (r : Now × Int) : PyData := sq true [r.1.dat true, .int r.2]
end Hz
namespace Hz
open PySem L2
theorem le_wo {B : List Addr} {H H' : Hp} (e : Ex B H H') (h : ∀ b ∈ B, H b = none) : Le H (wo B H') := fun a o q => by
  refine wo_of (fun z => ?_) (e.1 a o (fun z => ?_) q) <;> · rw [h a z] at q; cases q
theorem le_woT {B : List Addr} {H H' : Hp} (e : Le H H') : Le (wo B H) (wo B H') := fun a o q => by
  obtain ⟨n, q⟩ := wo_some q
  exact wo_of n (e a o q)
/-- a value made anew -/
def Fr (K : PySem.W.Frag) (H H' : Hp) (v : V) (d : PyData) : Prop := ∀ B : List Addr, (∀ b ∈ B, H b ≠ none) → Dp K (wo B H') v d
theorem Fr.dp {K : PySem.W.Frag} {H H' : Hp} {v : V} {d : PyData} (h : Fr K H H' v d) : Dp K H' v d := by
  have := h [] (by simp)
  rwa [wo_nil] at this
theorem Fr.le {K : PySem.W.Frag} {H H1 H2 : Hp} {v : V} {d : PyData} (h : Fr K H H1 v d) (e : Le H1 H2) : Fr K H H2 v d := fun B hB => dp_le (le_woT e) _ _ (h B hB)
theorem Fr.back {K : PySem.W.Frag} {H H1 H2 : Hp} {v : V} {d : PyData} (e : Ex [] H H1) (h : Fr K H1 H2 v d) : Fr K H H2 v d := fun B hB => h B fun b hb z => hB b hb (e.free z)
theorem Fr.int {K : PySem.W.Frag} {H H' : Hp} (i : Int) : Fr K H H' (.int i) (.int i) := fun _ _ => .int i
theorem Fr.tup {K : PySem.W.Frag} {H H1 : Hp} {p : Addr} {xs : List V} {ds : List PyData} (hp : H1 p = none) (e : Ex [] H H1) (h : ∀ B : List Addr, (∀ b ∈ B, H b ≠ none) → DpAll K (wo B H1) xs ds) : Fr K H (upd H1 p (.tup xs)) (.ref p) (sq true ds) := fun B hB => by
  have np : p ∉ B := fun z => hB p z (e.free hp)
  exact .tup (SqT.of (wo_of np upd_same)) (dpa_le (le_woT fun a o q => (Ex.new (B := []) hp).1 a o (by simp) q) _ _ (h B hB))
end Hz
set_option Elab.async false
set_option linter.all false
set_option maxRecDepth 100000
set_option maxHeartbeats 2000000
namespace Hz
open PySem PySem.Spec PyProof.Rows L2
/-! ### defs that ask for a repr: no repr is under way where they are called -/
structure FnG (P : Program) (w : World) (K : PySem.W.Frag) (mg : Str → Option Value) (base : Heap) (k : Nat) (f : Addr) (fd : FuncData) (ps : List Str) (sp : Sp) : Prop where
  len : ∀ vs H Q E, sp vs H Q E → vs.length = ps.length
  go : ∀ (A : Around) (outer : List Env) (s : Shared) (H : Hp) (args : Args) (us : List Value) (vs : List V) (Q : VK) (E : XK),
    Room k A → A.guards = some [] → Env0 P w K mg base A outer s H → BindsTo s fd args (ps.zip us) → Vals vs us → sp vs H Q E → codeAny (model P w) A (.call (.ref f) args) (CR CX0 outer P w H s Q E) s
section
variable {P : Program} {w : World} {K : PySem.W.Frag} {mg : Str → Option Value} {base : Heap} {k : Nat} {f : Addr} {fd : FuncData} {ps : List Str} {sp : Sp}
/-- the body of such a def -/
theorem okG {x qual : Str} {st : Stmt} {N : List Str} (F : Fun K x qual st f fd) (S : FnScope N ps (defScope st)) (len : ∀ vs H Q E, sp vs H Q E → vs.length = ps.length)
    (body : ∀ (cdv : Value) (A : Around) (outer : List Env) (s : Shared) (H : Hp) (vs : List V) (Q : VK) (E : XK), Room k (A.deeper (envOfC qual (defScope st) s.heap.objs.size f cdv)) → A.guards = some [] → sp vs H Q E →
      ∃ t, PSs (cxOf CX0 P w K mg base N qual (defScope st) f cdv A outer s H E).nox (defBody st) t ∧ t { nx := fun _ H' => Q .non H', rt := Q } (start N vs) H) : FnG P w K mg base (k + 1) f fd ps sp := by
  obtain ⟨oc, od, kV, doc, pm, an, cdv, ct, osl, rfl, lk, code⟩ := F.ex
  refine ⟨len, fun A outer s H args us vs Q E room gd e0 bd rv want => ?_⟩
  have inK : K.In s.heap := e0.mod.kin.keeps fun b o e => (e0.bs b o e).1
  have noLim : s.heap.NoLimit := e0.mod.nolimit.keeps fun b o e => (e0.bs b o e).1
  have places : ∀ y ∈ ps.zip us, (defScope st).names.lookup y.1 = some .local ∨ ((defScope st).names.lookup y.1 = some .cell ∧ ((cellsFrom (s.heap.objs.size + 1) (defScope st).names []).lookup y.1).isSome = true) := by
    rintro ⟨n, v⟩ hy
    exact (S.par n (List.of_mem_zip hy).1).elim .inl fun q => .inr ⟨q, PySem.W.cellsFrom_some _ _ _ (.inl q)⟩
  refine codeAny_call_function room.depth (inK _ _ lk) rfl S.co S.gen rfl (PySem.W.codeRec_of inK code) (bd _ _ _ _ ?_)
  refine wpAny_newFunctionEnv_cells S.kind places fun env made s1 x => ?_
  subst made
  refine ⟨noLim.keeps x.toInCall.keep, codeAny_func ?_⟩
  obtain ⟨t, ht, hq⟩ := body cdv A outer s H vs Q E (room.deeper _) gd want
  refine wpAny_mono (ht.nox.run [] s1 (start N vs) H _ (inv_start S room.hd e0 (len _ _ _ _ want) rv x) hq) (fun fl s' ends => ?_) fun _ _ z => z
  match fl, ends with
  | .ret u, ⟨v, σ', H', J, r, q⟩ => exact ⟨v, H', J.os, J.bare, J.base, J.hok, r, q⟩
  | .next, ⟨σ', H', J, q⟩ => exact ⟨V.non, H', J.os, J.bare, J.base, J.hok, rfl, q⟩
  | .brk, ⟨_, _, _, q⟩ => exact q.elim
  | .cont, ⟨_, _, _, q⟩ => exact q.elim
end
section
variable {X : Cx} {k : Nat} {f : Addr} {fd : FuncData} {ps : List Str} {sp : Sp} {x : Str} {p pos : Pos} {e : Expr} {es : List Expr} {t : TA}
/-- its call by name -/
theorem pe_callG (F : FnG X.prog X.w X.K X.mg X.base k f fd ps sp) (room : Room k X.A) (gd : X.A.guards = some []) (glob : Gl X x) (stands : X.mg x = some (.ref f)) (kept : PySem.W.keepIn X.K (.ref f) = true) (bd : Binds X.K fd ps [])
    (ha : PA X (e :: es) t) (nd : (x == ("__debug__" : Str)) = false := by decide) (plain : starEach (e :: es) X.env = (false, eval e X.env) :: starEach es X.env := by rfl) (nostar : (backTo pos (starEach es X.env)).any (·.1) = false := by rfl) :
    PE X (.Call (.Name x p) (e :: es) [] pos) (tCall sp [] E0 t) := by
  refine ⟨fun pins s σ H Q J h => wpAny_Call_Name_kw (ld_glob J glob stands ?_ nd)⟩
  refine PySem.W.callWith_K (h₀ := X.base) J.ok.mod.kin kept (thn (ha.run pos pins s σ H _ J h) fun us s1 ⟨vs, H1, J1, rv, want⟩ => ⟨J1.kIn, ?_⟩) plain nostar
  have rv' : Vals (vs ++ []) (us ++ []) := rv.append .nil
  have many : (us ++ []).length = ps.length := by rw [← rv'.length]; exact F.len _ _ _ _ want
  refine wpAny_call (codeAny_mono (F.go X.A X.stack s1 H1 ⟨us, []⟩ (us ++ []) (vs ++ []) Q E0 room gd J1.env0 (bd s1 us J1.kIn many) rv' want) fun r s' hq => ?_)
  match r, hq with
  | .ok (.ret u), hq => exact J1.after hq
  | .ok .next, hq => exact hq.elim
  | .ok .brk, hq => exact hq.elim
  | .ok .cont, hq => exact hq.elim
  | .error _, hq => exact hq.elim
/-- repr of data -/
def rRepr (K : PySem.W.Frag) : List V → Hp → VK → Prop := fun xs H Q => ∃ (x : V) (d : PyData), xs = [x] ∧ Dp K H x d ∧ d.showable = true ∧ d.hasDict = false ∧ d.depth ≤ 20 ∧ d.shown.length ≤ sizeLine ∧ (∃ a, x = .ref a) ∧ Q (.str d.shown) H
theorem reprK (K : PySem.W.Frag) (units : X.A.units + 64 < cLine) (gd : X.A.guards = some []) (h : X.K = K := by rfl) : CallR X (.builtin "repr") (rRepr K) := by
  subst h
  intro pins s σ H xs us Q J rv ⟨x, d, ex, hd, h1, h2, h3, h4, ⟨a, ea⟩, q⟩
  subst ex
  subst ea
  obtain ⟨u, rfl, r⟩ := Vals.one rv
  obtain ⟨as, rd⟩ := Dp.reads J d _ u hd r
  cases r
  exact repr_of_reads' rd h1 (PyData.noDict_hsm h2) gd (by omega) (fun _ _ z => z) (fun h' t tk hk => ⟨.str d.shown, H, J.kept hk, ⟨_, rfl⟩, q⟩) h4
end

section
variable {X : Cx}
/-- parts by a list or a tuple -/
def gSq (K : PySem.W.Frag) (n : Nat) (t : TGs) : TG := fun v σ H Q => gUnl K n t v σ H Q ∨ gTup K n t v σ H Q
theorem pg_seqK (K : PySem.W.Frag) (n : Nat) {es : List Expr} {k : Nat} {t : TGs} {pos : Pos} (hc : X.calm = true) (h : PGs X es t) (hK : X.K = K := by rfl) (hn : (assignEach es X.env).length = n := by rfl) (hst : (assignEach es X.env).findIdx? (·.1) = none := by rfl) : PG X (.Tuple es k pos) (gSq K n t) := by
  subst hK
  refine ⟨fun pins s σ H v u Q I r hw => ?_⟩
  rcases hw with hw | hw
  · exact (pg_unl hc h hn hst).run pins s σ H v u Q I r hw
  · exact (pg_tup hc h hn hst).run pins s σ H v u Q I r hw
end
/-! ### the law's own call -/
theorem law_runG {P : Program} {w : World} {K : PySem.W.Frag} {mg mb : Str → Option Value} {k : Nat} {fa a : Addr} {fd : FuncData} {x : Str} {sp : Sp} {s1 : Shared} {vs : List Value} {ns : List Int}
    (inK : K.In s1.heap) (names : s1.heap.Ns mainGlobals mg) (blt : s1.heap.Ns builtinsNs mb) (boot : ∀ x : Str, x ≠ "__name__" → mb x = bootBuiltins x) (lim : s1.heap.NoLimit) (gens : s1.gens = #[])
    (at_ : s1.heap.get? a = some { cls := .type "list", data := .seq vs.toArray }) (hints : IntsAre vs ns) (few : ns.length ≤ sizeLine) (room : Room k callerA)
    (F : ∀ base : Heap, K.In base → base.Ns mainGlobals mg → FnG P w K mg base k fa fd [x] sp) (bd : ∀ (s : Shared) (u : Value), BindsTo s fd ⟨[u], []⟩ [(x, u)])
    (want : ∀ H : Hp, Only H → SqL K H a (ns.map V.int) → sp [.ref a] H (fun v _ => v = .bl true) fun _ _ _ => False) :
    codeAny (model P w) callerA (.call (.ref fa) ⟨[.ref a], []⟩) (fun r s' => r = .ok (.ret (.bool true)) ∧ OldK s1.heap s'.heap ∧ s'.os = s1.os ∧ AllBare s'.gens) s1 := by
  have rv := vals_ints hints
  -- either the script is one of the module's own objects (nothing is tracked), or it is the only thing tracked, locked
  have run : ∀ H : Hp, Only H → SqL K H a (ns.map V.int) → HOk P w H s1.heap → (∀ b, H b ≠ none → b = a ∧ K.lookup a = none) →
      codeAny (model P w) callerA (.call (.ref fa) ⟨[.ref a], []⟩) (fun r s' => r = .ok (.ret (.bool true)) ∧ OldK s1.heap s'.heap ∧ s'.os = s1.os ∧ AllBare s'.gens) s1 := by
    intro H only there hok just
    have untracked : ∀ b, (b = a → K.lookup a ≠ none) → H b = none := fun b hb => by
      cases q : H b with
      | none => rfl
      | some u =>
        obtain ⟨e1, e2⟩ := just b (by rw [q]; exact fun z => nomatch z)
        exact absurd e2 (hb e1)
    have dictFree : ∀ {b : Addr} {o : Obj} {es : Array DictEntry} {ep : Nat}, s1.heap.get? b = some o → o.data = .dict es ep → H b = none := fun {b o es ep} e d => by
      cases q : H b with
      | none => rfl
      | some u =>
        obtain ⟨e1, _⟩ := just b (by rw [q]; exact fun z => nomatch z)
        rw [e1, at_] at e
        cases e
        exact nomatch (show Data.seq vs.toArray _ = Data.dict es ep from d)
    have nsB : ∀ {b : Addr} {m : Str → Option Value}, s1.heap.Ns b m → (hidT s1.heap H).Ns b m := fun ⟨o, es, ep, e, d, r⟩ => ⟨o, es, ep, hidT_get e (dictFree e d), d, r⟩
    have inB : K.In (hidT s1.heap H) := fun b o e => hidT_get (inK b o e) (untracked b fun z => by rw [← z, e]; exact fun q => nomatch q)
    have md : Mod K mg (hidT s1.heap H) := ⟨inB, nsB names, ⟨mb, nsB blt, boot⟩, lim.elim fun mc hc => ⟨mc, nsB hc.1, hc.2⟩⟩
    have e0 : Env0 P w K mg (hidT s1.heap H) callerA [] s1 H := ⟨rfl, md, fun _ _ e => of_hidT e, Nat.le_of_eq (hidT_size _ _), trivial, fun b hb => (nomatch (show b ∈ ([] : List Addr) from hb)), hok, .of_eq gens⟩
    refine codeAny_mono ((F _ inB (nsB names)).go callerA [] s1 H ⟨[.ref a], []⟩ [.ref a] [.ref a] _ _ room rfl e0 (bd s1 (.ref a)) (.cons rfl .nil) (want H only there)) fun r s' hr => ?_
    match r, hr with
    | .error _, hr => exact hr.elim
    | .ok .next, hr => exact hr.elim
    | .ok .brk, hr => exact hr.elim
    | .ok .cont, hr => exact hr.elim
    | .ok (.ret u), ⟨v, H2, os, bare, un, hok2, r2, q⟩ =>
      obtain rfl : v = .bl true := q
      obtain rfl : u = Value.bool true := r2
      refine ⟨rfl, OldK.of_keep fun b o e => ?_, os, bare⟩
      rcases only b with z | ⟨ob, xs, z⟩
      · exact un.keep b o e z (fun m => nomatch (show b ∈ ([] : List Addr) from m)) (by simp)
      · have e2 := (hok2 b _ (un.frzs b ob _ z)).1
        rw [show s1.heap.get? b = some ob from (hok b _ z).1] at e
        cases e
        exact e2
  by_cases own : ∃ o, K.lookup a = some o
  · obtain ⟨o, ho⟩ := own
    have e := inK a o ho
    rw [at_] at e
    cases e
    exact run (fun _ => none) (fun _ => .inl rfl) (.inr ⟨_, vs.toArray, _, ho, rfl, rfl, rfl, by rw [List.size_toArray, hints.length]; exact few, by simpa using rv⟩) (fun _ _ z => nomatch (show (none : Option HO) = some _ from z)) fun b z => absurd rfl z
  · have none_ : K.lookup a = none := by
      cases q : K.lookup a with
      | none => rfl
      | some o => exact absurd ⟨o, q⟩ own
    refine run (fun b => if b = a then some (.frz { cls := .type "list", data := .seq vs.toArray } (.lst (ns.map V.int))) else none) (fun b => ?_) (.inl (.inr ⟨_, if_pos rfl⟩)) (fun b u z => ?_) (fun b z => ⟨?_, none_⟩)
    · by_cases hb : b = a
      · exact .inr ⟨_, _, if_pos hb⟩
      · exact .inl (if_neg hb)
    · by_cases hb : b = a
      · cases (if_pos hb).symm.trans z
        subst hb
        exact ⟨at_, by rw [List.length_map]; exact few, vs, _, rv, at_⟩
      · exact nomatch (if_neg hb).symm.trans z
    · exact Decidable.byContradiction fun hb => z (if_neg hb)
theorem walk_G {l : PySem.W.OpenLaw} {n k : Nat} {q : Program} {loose : List Str} {XP : (Str → Option Value) → Heap → Prop} {YP : World → Heap → Prop} {d : DefRec} {K : Params → PySem.W.Frag} {sp : World → Sp} {x : Str}
    (most : l.most = some n) (few : n ≤ sizeLine) (nodf : d.params.defaults = []) (room : Room k callerA) (hY : ∀ (w : World) (h : Heap), YP w h → (K w.params).In h)
    (F : ∀ (w : World) (mg : Str → Option Value) (fa : Addr) (h : Heap), (K w.params).In h → h.Ns mainGlobals mg → mg d.name = some (.ref fa) →
      ∃ fd : FuncData, (∀ (s : Shared) (u : Value), BindsTo s fd ⟨[u], []⟩ [(x, u)]) ∧ ∀ base : Heap, (K w.params).In base → base.Ns mainGlobals mg → FnG l.prog w (K w.params) mg base k fa fd [x] (sp w))
    (want : ∀ (w : World) (H : Hp) (a : Addr) (ns : List Int), ns.length ≤ n → Only H → SqL (K w.params) H a (ns.map V.int) → sp w [.ref a] H (fun v _ => v = .bl true) fun _ _ _ => False) :
    PySem.W.WalkO q loose XP YP l.row.toRowW d [] (fun f vs => PySem.call f vs) := by
  refine Att.attach_call most nodf fun w s0 s1 mg mb fa o pm cd doc a vs ns G Y ho hd hcd stands script hints len gens => ?_
  obtain ⟨fd, bd, hF⟩ := F w mg fa _ (hY w _ Y) G.T.g stands
  exact law_runG (hY w _ Y) G.T.g G.T.b G.T.builtins G.T.nolimit gens script hints (Nat.le_trans len few) room hF bd fun H hO hS => want w H a ns len hO hS
end Hz
set_option Elab.async false
set_option linter.all false
set_option maxRecDepth 100000
set_option maxHeartbeats 4000000
namespace Z64
open PySem PySem.Spec PyProof.Rows L2 Hz
section
variable {P : Program} {w : World} {K : PySem.W.Frag} {mg : Str → Option Value} {base : Heap}
local macro_rules | `(tactic| walk_at "un") => `(tactic| dsimp only [tSeq, tIfS, tRet, tAsg, tDrop, tOr, tAnd, tNot, tAndV, tOrV, tNotV, tTest, tB, tOp, tUn, tCB, tCons, tNil, tC, tNext, tIf, tChain, gName, tPar, tPar3, tTup, tLst])
theorem z_gSq {t : Bool} {H : Hp} {a : Addr} {xs : List V} {n : Nat} {ts : TGs} {σ : L2.St} {Q : L2.St → Hp → Prop} (h : SqX t K H a xs) (hl : xs.length = n) (k : ts xs σ H Q) : gSq K n ts (.ref a) σ H Q := by
  cases t with
  | true => exact .inr ⟨a, xs, rfl, h, hl, k⟩
  | false => exact .inl ⟨a, xs, rfl, h, hl, k⟩
theorem now_parts {t : Bool} {H : Hp} {v : V} {s : Now} (h : Dp K H v (s.dat t)) : ∃ a, v = .ref a ∧ SqX t K H a [.int s.day, .int s.ant, .int s.pot] := by
  obtain ⟨a, xs, rfl, hS, hA⟩ := dp_sq h
  obtain rfl := dpa_ints (ns := [(s.day : Int), s.ant, s.pot]) hA
  exact ⟨a, rfl, hS⟩
theorem need_at {h : Hill} {i : Nat} (hi : i < h.needs.length) : (h.needs.map PyData.int)[i]? = some (.int (h.need i)) := by
  unfold Hill.need
  rw [List.getElem?_map, List.getElem?_eq_getElem hi]
  rfl
theorem min_if (i j : Int) : (if j < i then j else i) = min i j := by
  rw [Int.min_def]
  split <;> split <;> omega
end
end Z64
set_option Elab.async false
set_option linter.all false
set_option maxRecDepth 100000
set_option maxHeartbeats 4000000
namespace Z64
open PySem PySem.Spec PyProof.Rows L2 Hz
section
variable {P : Program} {w : World} {K : PySem.W.Frag} {mg : Str → Option Value} {base : Heap}
local macro_rules | `(tactic| walk_at "un") => `(tactic| dsimp only [tSeq, tIfS, tRet, tAsg, tDrop, tOr, tAnd, tNot, tAndV, tOrV, tNotV, tTest, tB, tOp, tUn, tCB, tCons, tNil, tC, tNext, tIf, tChain, gName, tPar, tPar3, tTup, tLst])
theorem lx {B : List Addr} {H H' : Hp} (x : Ex B H H') : Le (wo B H) H' := Le.trans x.wo (wo_le _ _)
theorem day_get {h : Hill} {t : Bool} (i : Nat) (hi : i < h.L) : (h.year.map fun d : Int × Bool => sq t [.int d.1, .bool d.2])[i]? = some (sq t [.int (h.drop i), .bool (h.isOpen i)]) := by
  obtain ⟨d, hd, e1, e2⟩ := Hill.at_day (show 0 < h.L by omega) i
  rw [Nat.mod_eq_of_lt hi] at hd
  rw [List.getElem?_map, hd, e1, e2]
  rfl
/-- a STATE by draws -/
def spNow (K : PySem.W.Frag) : Sp := fun vs H Q _ => ∃ (b : Addr) (n : Nat) (h : Hill) (v : V), vs = [.ref b, v] ∧ Bx b n H ∧ n ≤ 10 ^ 11 ∧ Dp K (wo [b] H) v (h.dat true) ∧ HillOk h ∧
  ∀ (s : Now) u H', h.At s → s.day ≤ 10 ^ 9 → Fr K H H' u (s.dat true) → Ex [b] H H' → Bx b (n + 200) H' → Q u H'
theorem ok_now (T : Txt K mg) : FnOk P w K mg base CX0 7 T.a__law_now T.d__law_now P__law_now (spNow K) := by
  have nd := sc__law_now.nd
  have G__law_of := ok_of (P := P) (w := w) (base := base) T
  have G__law_take := ok_T (P := P) (w := w) (base := base) T
  refine T.F__law_now.ok sc__law_now (fun vs H Q E h => ?_) (fun cdv A outer s H vs Q E hr h => ?_)
  · obtain ⟨b, n, h, v, rfl, _⟩ := h
    rfl
  · obtain ⟨b, n, h, v, rfl, hB, hn, hD, hk, q⟩ := h
    have hr__law_of := hr
    have hr__law_take := hr.mono (show 5 ≤ 6 by decide)
    have hL0 := hk.L0
    have hL2 : h.L ≤ 20 := hk.y2
    have hm0 := hk.m0
    have hm1 := hk.m1
    have hn1 := hk.n1
    have hn2 := hk.n2
    have hn' : n ≤ 100000000000 := hn
    refine ⟨_, (pss_cons (ps_asg (pv 1) (pg_tupK K 3 (by rfl) (pgs_cons (pg_name (i := 2) nd rfl (Or.inr rfl)) (pgs_cons (pg_name (i := 3) nd rfl (Or.inl rfl)) (pgs_cons (pg_name (i := 4) nd rfl (Or.inl rfl)) pgs_nil)))))
      (pss_cons (ps_setLc (i := 5) (own := [("_law_k", 7)]) (by rfl) nd rfl rfl (sw_true rfl rfl rfl (by decide +kernel)) (pi_range1 (by rfl) T.z_range (pa_cons (pe_callB (lenK K) (by rfl) T.z_len (by decide +kernel) (pa_cons (pv 2) pa_nil)) pa_nil)) (blkOk_by (N := N__law_now) (own := [("_law_k", 7)]) (sc := defScope s__law_now) (by decide +kernel)) (fun _ _ _ _ _ => pg_name (i := 7) nd rfl (Or.inl rfl)) (fun _ _ _ _ _ => (pts_one (pt_val (pe_ix (ixK K) (pe_ix (ixK K) (pv 2) (pv 7) (fun _ _ => rfl)) pe_int (fun _ _ => rfl))))) (fun _ _ _ _ _ => (pv 7)))
      (pss_cons (ps_set (i := 6) nd rfl (Or.inl rfl) (pe_op op_add (pe_call G__law_of hr__law_of (by rfl) T.m__law_of T.k__law_of T.b__law_of .nil pass0 (pa_cons (pv 0) (pa_cons (pv 5) pa_nil))) (pe_op op_mul (pe_callB (lenK K) (by rfl) T.z_len (by decide +kernel) (pa_cons (pv 2) pa_nil)) (pe_call G__law_of hr__law_of (by rfl) T.m__law_of T.k__law_of T.b__law_of .nil pass0 (pa_cons (pv 0) (pa_cons (pe_lst (pa_cons pe_int (pa_cons pe_int (pa_cons (pe_call G__law_take hr__law_take (by rfl) T.m__law_take T.k__law_take T.b__law_take .nil pass0 (pa_cons (pv 0) (pa_cons pe_int pa_nil))) (pa_cons (pe_call G__law_take hr__law_take (by rfl) T.m__law_take T.k__law_take T.b__law_take .nil pass0 (pa_cons (pv 0) (pa_cons (pe_op op_pow pe_int pe_int) pa_nil))) pa_nil))))) pa_nil))))))
      (pss_one (ps_ret (pe_tup (pa_cons (pv 6) (pa_cons (pe_call G__law_take hr__law_take (by rfl) T.m__law_take T.k__law_take T.b__law_take .nil pass0 (pa_cons (pv 0) (pa_cons (pe_callB (lenK K) (by rfl) T.z_len (by decide +kernel) (pa_cons (pv 3) pa_nil)) pa_nil))) (pa_cons (pe_call G__law_of hr__law_of (by rfl) T.m__law_of T.k__law_of T.b__law_of .nil pass0 (pa_cons (pv 0) (pa_cons (pe_lst (pa_cons pe_int (pa_cons (pv 4) (pa_cons (pe_call G__law_take hr__law_take (by rfl) T.m__law_take T.k__law_take T.b__law_take .nil pass0 (pa_cons (pv 0) (pa_cons (pe_op op_add (pv 4) pe_int) pa_nil))) pa_nil)))) pa_nil))) pa_nil))))))))), ?_⟩
    walk_at "un"
    obtain ⟨a, xs, rfl, hS, hA⟩ := dp_tup hD
    cases hA with | cons hyD hA => cases hA with | cons hnD hA => cases hA with | cons hcD hA =>
    cases hA
    obtain rfl := dp_int hcD
    obtain ⟨ya, ys, rfl, hyS, hyA⟩ := dp_sq hyD
    obtain ⟨na, ns, rfl, hnS, hnA⟩ := dp_sq hnD
    have ly := dpa_len hyA
    rw [List.length_map] at ly
    have hL : ys.length = h.L := ly
    have ln := dpa_len hnA
    rw [List.length_map] at ln
    refine ⟨_, rfl, a, _, rfl, le_t (wo_le _ _) hS, rfl, _, _, rfl, _, _, rfl, _, _, rfl, rfl, ?_⟩
    walk_at "un"
    refine z_lcRF (n := h.L) (lo := 0) (fun R r => ⟨_, rfl, _, _, rfl, (le_x (wo_le _ _) hyS).sq, _, rfl, by omega, by omega, by rw [hL]; exact r _ (Ex.refl _ _)⟩) (by omega) (fun i => h.isOpen i) (fun i => .int (0 + i)) (fun Hb xb i hi D H' hD' e1 tD N M hN hM => ?_) (fun Hb xb D H1 hD' hz e1 => ?_)
    · refine ⟨rfl, _, rfl, _, rfl, z_ixD (dp_le (lx (Ex.nil (xb.trans e1))) _ _ hyD) (Le.refl _) (by rw [Int.zero_add]) (day_get i hi) fun u hu => z_ixD hu (Le.refl _) (j := 1) rfl rfl fun c hc => ?_⟩
      obtain rfl := dp_bl hc
      refine ⟨_, rfl, ?_⟩
      by_cases c : h.isOpen i = true
      · rw [c]
        exact iteT ⟨_, rfl, hN c H' (Ex.refl _ _)⟩
      · have c' := Bool.eq_false_iff.mpr c
        rw [c']
        exact iteF (hM c' H' (Ex.refl _ _))
    · have x1 := xb.trans e1
      have mem : ∀ z : V, z ∈ (((List.range h.L).filter fun i => h.isOpen i).map fun i : Nat => V.int (0 + (i : Int))) → ∃ k : Nat, z = .int k ∧ k < h.L ∧ h.isOpen k = true := fun z hz => by
        obtain ⟨k, hk1, rfl⟩ := List.mem_map.mp hz
        obtain ⟨hk1, hk2⟩ := List.mem_filter.mp hk1
        exact ⟨k, by rw [Int.zero_add], List.mem_range.mp hk1, hk2⟩
      have pos : 1 ≤ (((List.range h.L).filter fun i => h.isOpen i).map fun i : Nat => V.int (0 + (i : Int))).length := by
        obtain ⟨m, ⟨m1, m2, _⟩, m3⟩ := Hill.openFrom_ex hL0 hk.op 0
        exact List.length_pos_of_mem (List.mem_map.mpr ⟨m, List.mem_filter.mpr ⟨List.mem_range.mpr (by omega), m2⟩, rfl⟩)
      have small : (((List.range h.L).filter fun i => h.isOpen i).map fun i : Nat => V.int (0 + (i : Int))).length ≤ 20 := by
        rw [List.length_map]
        have := List.length_filter_le (fun i => h.isOpen i) (List.range h.L)
        rw [List.length_range] at this
        omega
      have nD : D ≠ b := fun z => (hB.ex xb (by simp)).ne hD' z
      refine ⟨_, rfl, _, rfl, b, D, _, n, rfl, hB.ex x1 (by simp), by omega, .inl (SqL.of (wo_of (by simpa using nD) hz)), pos, by omega, fun v1 H2 hv x2 B2 => ?_⟩
      obtain ⟨k, rfl, k1, k2⟩ := mem v1 hv
      have x02 : Ex [b] H H2 := (Ex.nil x1).trans x2
      refine ⟨_, rfl, _, _, rfl, (le_x (lx x02) hyS).sq, ?_⟩
      refine ⟨_, rfl, _, rfl, b, _, _, rfl, B2, by omega, by decide, by decide, fun r1 H3 r10 r11 x3 B3 => ?_⟩
      refine ⟨_, rfl, _, _, rfl, rfl, ⟨by decide, by decide, by decide⟩, b, _, _, rfl, B3, by omega, by decide, by decide, fun r2 H4 r20 r21 x4 B4 => ⟨(by show 4 ≤ sizeLine; decide), fun p hp => ?_⟩⟩
      have x5 := Ex.new (B := []) (o := .lst [.int 0, .int 0, .int r1, .int r2]) hp
      have x05 : Ex [b] H _ := ((x02.trans x3).trans x4).trans (Ex.nil x5)
      refine ⟨b, p, _, _, rfl, B4.ex x5 (by simp), by omega, sq_new B4 hp, (by show 1 ≤ 4; decide), (by show 4 ≤ 1000; decide), fun v2 H6 hv2 x6 B6 => ?_⟩
      have hv2' : ∃ f : Nat, v2 = .int f ∧ f ≤ 10 ^ 6 := by
        simp only [List.mem_cons, List.not_mem_nil, or_false] at hv2
        rcases hv2 with rfl | rfl | rfl | rfl
        · exact ⟨0, rfl, by decide⟩
        · exact ⟨0, rfl, by decide⟩
        · exact ⟨r1.toNat, by rw [Int.toNat_of_nonneg r10], by omega⟩
        · exact ⟨r2.toNat, by rw [Int.toNat_of_nonneg r20], by have : r2 < 1000000 := r21; omega⟩
      obtain ⟨f, rfl, hf⟩ := hv2'
      have hf' : f ≤ 1000000 := hf
      have x06 := x05.trans x6
      rw [hL]
      refine ⟨_, _, rfl, rfl, .inr ⟨by omega, by omega⟩, ?_⟩
      refine ⟨_, _, rfl, rfl, _, rfl, _, rfl, _, rfl, na, ns, rfl, (le_x (lx x06) hnS).sq, ?_⟩
      rw [ln]
      refine ⟨b, _, _, rfl, B6, by omega, by omega, by omega, fun r3 H7 r30 r31 x7 B7 => ?_⟩
      refine ⟨_, rfl, _, rfl, _, rfl, _, rfl, _, _, rfl, rfl, b, _, _, rfl, B7, by omega, by omega, by omega, fun r4 H8 r40 r41 x8 B8 => ⟨(by show 3 ≤ sizeLine; decide), fun p2 hp2 => ?_⟩⟩
      have x9 := Ex.new (B := []) (o := .lst [.int 0, .int h.most, .int r4]) hp2
      refine ⟨b, p2, _, _, rfl, B8.ex x9 (by simp), by omega, sq_new B8 hp2, (by show 1 ≤ 3; decide), (by show 3 ≤ 1000; decide), fun v3 Ha hv3 xa Ba => ?_⟩
      have hv3' : ∃ z : Int, v3 = .int z ∧ 0 ≤ z ∧ z ≤ h.most := by
        simp only [List.mem_cons, List.not_mem_nil, or_false] at hv3
        rcases hv3 with rfl | rfl | rfl
        · exact ⟨0, rfl, by omega, by omega⟩
        · exact ⟨_, rfl, by omega, by omega⟩
        · exact ⟨r4, rfl, by omega, by omega⟩
      obtain ⟨z, rfl, z1, z2⟩ := hv3'
      refine ⟨(by show 3 ≤ sizeLine; decide), fun p3 hp3 => ?_⟩
      have xb := Ex.new (B := []) (o := .tup [.int ((k : Int) + (h.L : Int) * (f : Int)), .int r3, .int z]) hp3
      have x0b := ((((x06.trans x7).trans x8).trans (Ex.nil x9)).trans xa).trans (Ex.nil xb)
      have nb : p3 ≠ b := Ba.ne hp3
      have big : f * h.L ≤ 1000000 * 20 := Nat.mul_le_mul hf' hL2
      refine q ⟨k + f * h.L, r3.toNat, z⟩ _ _ ⟨?_, ?_, z1, z2⟩ ?_ ?_ x0b ((Ba.ex xb (by simp)).mono (by omega))
      · show h.isOpen (k + f * h.L) = true
        rw [Hill.isOpen_year, k2]
      · show r3.toNat < _
        omega
      · show k + f * h.L ≤ 1000000000
        omega
      · have hn3 : H p3 = none := ((((x06.trans x7).trans x8).trans (Ex.nil x9)).trans xa).free hp3
        refine fun C hC => .tup (xs := [.int ((k + f * h.L : Nat) : Int), .int ((r3.toNat : Nat) : Int), .int z]) (SqT.of (wo_of (fun z => hC _ z hn3) ?_)) (dpa_of_ints [((k + f * h.L : Nat) : Int), (r3.toNat : Int), z])
        rw [upd_same, Int.toNat_of_nonneg r30, Int.natCast_add, Int.natCast_mul, Int.mul_comm (f : Int)]
end
end Z64
set_option Elab.async false
set_option linter.all false
namespace Hz
namespace Hill
/-! ### lines: what is lost at a number -/
theorem dayOf_year {h : Hill} (hL : 0 < h.L) (hN : h.Nn) {t : Int} {m : Nat} (x : h.DayOf t m) (t1 : 1 ≤ t) (j : Nat) : h.DayOf (t + j * h.drops) (m + j * h.L) := by
  obtain ⟨x1, x2, x3⟩ := x
  refine ⟨by rw [isOpen_year]; exact x1, by rw [given_year hL]; omega, fun k hk ho => ?_⟩
  by_cases c : j * h.L ≤ k
  · obtain ⟨i, rfl⟩ : ∃ i, k = i + j * h.L := ⟨k - j * h.L, by omega⟩
    rw [isOpen_year] at ho
    rw [given_year hL]
    have := x3 i (by omega) ho
    omega
  · -- ahead of those years no more than their drops was given
    have h1 := ge_mono hN hL (show k + 1 ≤ 0 + j * h.L by omega)
    rw [ge_year hL, ge_zero] at h1
    show h.ge (k + 1) < _
    omega
/-- z is lost at number y -/
def Lost (h : Hill) (y z : Int) : Prop := ∃ (k : Int) (m : Nat), 1 ≤ y + k * h.drops ∧ h.DayOf (y + k * h.drops) m ∧ z = max 0 (h.given m - h.most - (y + k * h.drops))
theorem lost_uniq {h : Hill} (hL : 0 < h.L) (hN : h.Nn) {y a b : Int} (x : h.Lost y a) (x' : h.Lost y b) : a = b := by
  have key : ∀ (k k' : Int) (m m' : Nat), k ≤ k' → 1 ≤ y + k * h.drops → h.DayOf (y + k * h.drops) m → h.DayOf (y + k' * h.drops) m' → h.given m' = h.given m + (k' - k) * h.drops := fun k k' m m' l p d d' => by
    obtain ⟨j, hj⟩ := Int.eq_ofNat_of_zero_le (show 0 ≤ k' - k by omega)
    have e := dayOf_year hL hN d p j
    have e2 : y + k * h.drops + j * h.drops = y + k' * h.drops := by
      have : k' = k + j := by omega
      rw [this, Int.add_mul]; omega
    rw [e2] at e
    rw [dayOf_uniq d' e, given_year hL, hj]
  obtain ⟨k, m, p, d, rfl⟩ := x
  obtain ⟨k', m', p', d', rfl⟩ := x'
  rcases Int.le_total k k' with l | l
  · have := key k k' m m' l p d d'
    rw [Int.sub_mul] at this
    rw [this]
    omega
  · have := key k' k m' m l p' d' d
    rw [Int.sub_mul] at this
    rw [this]
    omega
theorem lost_ex {h : Hill} (hL : 0 < h.L) (hN : h.Nn) (ho : ∃ d, d ∈ h.year ∧ d.2 = true) (hd : 0 < h.drops) (y : Int) : ∃ z, h.Lost y z := by
  have e := Int.mul_ediv_add_emod y h.drops
  have e0 := Int.emod_nonneg y (show h.drops ≠ 0 by omega)
  obtain ⟨m, hm⟩ := dayOf_ex hN hL ho hd (y + (1 - y / h.drops) * h.drops)
  refine ⟨_, 1 - y / h.drops, m, ?_, hm, rfl⟩
  rw [Int.sub_mul, Int.one_mul, Int.mul_comm (y / h.drops)]
  omega
theorem Lost.nn {h : Hill} {y z : Int} (x : h.Lost y z) : 0 ≤ z := by
  obtain ⟨k, m, _, _, rfl⟩ := x
  omega
/-- so many years more -/
theorem Lost.year {h : Hill} {y z : Int} (x : h.Lost y z) (j : Int) : h.Lost (y + j * h.drops) z := by
  obtain ⟨k, m, p, d, rfl⟩ := x
  have e : y + j * h.drops + (k - j) * h.drops = y + k * h.drops := by rw [Int.sub_mul]; omega
  exact ⟨k - j, m, by rw [e]; exact p, by rw [e]; exact d, by rw [e]⟩
theorem lost_of {h : Hill} {y : Int} {m : Nat} (p : 1 ≤ y) (d : h.DayOf y m) : h.Lost y (max 0 (h.given m - h.most - y)) := by
  have e : y + 0 * h.drops = y := by rw [Int.zero_mul]; omega
  exact ⟨0, m, by omega, by rw [e]; exact d, by rw [e]⟩
/-- nothing is lost below an open evening that brings little more -/
theorem lost_none {h : Hill} (hL : 0 < h.L) (hN : h.Nn) {y z : Int} {n : Nat} (x : h.Lost y z) (ho : h.isOpen n = true) (g : y ≤ h.given n) (l : h.given n - y ≤ h.most) : z = 0 := by
  -- years enough, that the number be above nought
  obtain ⟨k0, m0, p0, d0, _⟩ := x
  have hd : 0 < h.drops ∨ h.drops ≤ 0 := by omega
  have xx : h.Lost y z := ⟨k0, m0, p0, d0, by assumption⟩
  -- k ≥ 0 may be taken
  obtain ⟨j, hj0, hj⟩ : ∃ j : Nat, (k0 : Int) ≤ j ∧ 1 ≤ y + j * h.drops ∧ True := by
    by_cases c : 0 ≤ k0
    · obtain ⟨j, hj⟩ := Int.eq_ofNat_of_zero_le c
      exact ⟨j, by omega, by rw [← hj]; exact p0, trivial⟩
    · refine ⟨0, by omega, ?_, trivial⟩
      have hdn : 0 ≤ h.drops := by
        have := ge_mono hN hL (Nat.zero_le h.L)
        have e := ge_year hL 0 1 (h := h)
        rw [Nat.one_mul, Nat.zero_add, ge_zero] at e
        rw [ge_zero] at this
        omega
      have : k0 * h.drops ≤ 0 := Int.mul_nonpos_of_nonpos_of_nonneg (by omega) hdn
      show 1 ≤ y + ((0 : Nat) : Int) * h.drops
      rw [Int.ofNat_zero, Int.zero_mul]
      omega
  obtain ⟨m, hm⟩ : ∃ m, h.DayOf (y + j * h.drops) m := by
    obtain ⟨i, hi⟩ := Int.eq_ofNat_of_zero_le (show 0 ≤ (j : Int) - k0 by omega)
    have e := dayOf_year hL hN d0 p0 i
    have e2 : y + k0 * h.drops + i * h.drops = y + j * h.drops := by
      have : (j : Int) = k0 + i := by omega
      rw [this, Int.add_mul]; omega
    rw [e2] at e
    exact ⟨_, e⟩
  have lo := lost_uniq hL hN xx ⟨j, m, hj.1, hm, rfl⟩
  have ml : m ≤ n + j * h.L := by
    refine Nat.not_lt.mp fun c => ?_
    have := hm.2.2 _ c (by rw [isOpen_year]; exact ho)
    rw [given_year hL] at this
    omega
  have := given_mono hN hL ml
  rw [given_year hL] at this
  rw [lo]
  omega
/-- a turn leads the line by the need, and by what is lost there -/
theorem turn_line {h : Hill} (hL : 0 < h.L) (hN : h.Nn) (hn : ∀ m ∈ h.needs, 0 ≤ m) {s : Now} {m : Nat} {z : Int} (a : h.At s) (e : h.Eve s m) (x : h.Lost (h.given s.day - s.pot + h.need s.ant) z) :
    z = h.over s m - min (h.over s m) h.most ∧ h.given m - min (h.over s m) h.most = h.given s.day - s.pot + h.need s.ant + z := by
  have eo : h.over s m = h.given m - (h.given s.day - s.pot + h.need s.ant) := by unfold over; omega
  have hneed : 0 ≤ h.need s.ant := by
    unfold need
    cases q : h.needs[s.ant]? with
    | none => exact Int.le_refl _
    | some v => exact hn v (List.mem_of_getElem? q)
  have p0 := a.p0
  have p1 := a.p1
  by_cases c : s.pot < h.need s.ant
  · have g0 : 0 ≤ h.given s.day := by
      have := ge_mono hN hL (Nat.zero_le (s.day + 1))
      rw [ge_zero] at this
      exact this
    obtain ⟨k, hk⟩ : ∃ k, h.DayOf (h.given s.day + h.need s.ant - s.pot) k := by
      have ho : ∃ d, d ∈ h.year ∧ d.2 = true := ⟨_, List.mem_of_getElem? (at_day hL s.day).choose_spec.1, by rw [← (at_day hL s.day).choose_spec.2.2]; exact a.op⟩
      obtain ⟨k0, m0, q1, q2, _⟩ := x
      by_cases hd : 0 < h.drops
      · exact dayOf_ex hN hL ho hd _
      · obtain ⟨e1, e2, e3, e4⟩ := e
        refine ⟨m, e2, by unfold over at e3; omega, fun j hj ho => ?_⟩
        by_cases cj : s.day ≤ j
        · have := e4 j cj hj ho
          unfold over at this
          omega
        · have := given_mono hN hL (show j ≤ s.day by omega)
          omega
    have em := eve_uniq e (eve_dayOf hN hL c hk)
    subst em
    have ey : h.given s.day + h.need s.ant - s.pot = h.given s.day - s.pot + h.need s.ant := by omega
    rw [ey] at hk
    have lz := lost_uniq hL hN x (lost_of (by omega) hk)
    omega
  · have em := eve_uniq e (eve_now a.op (Int.not_lt.mp c))
    subst em
    have := lost_none hL hN x a.op (by omega) (by omega)
    omega
/-- the evening of the new line -/
theorem eve_line {h : Hill} (hL : 0 < h.L) (hN : h.Nn) (hn : ∀ m ∈ h.needs, 0 ≤ m) {s : Now} {m : Nat} (a : h.At s) (e : h.Eve s m) : (h.given m - min (h.over s m) h.most ≤ 0 → m = s.day) ∧
    ∀ d, 0 < h.given m - min (h.over s m) h.most → h.DayOf (h.given m - min (h.over s m) h.most) d → m = max s.day d := by
  have p0 := a.p0
  have g0 : 0 ≤ h.given s.day := by
    have := ge_mono hN hL (Nat.zero_le (s.day + 1))
    rw [ge_zero] at this
    exact this
  refine ⟨fun c => ?_, fun d c x => ?_⟩
  · by_cases c2 : s.pot < h.need s.ant
    · exfalso
      have : h.over s m = s.pot + h.given m - h.given s.day - h.need s.ant := rfl
      omega
    · exact eve_uniq e (eve_now a.op (Int.not_lt.mp c2))
  · have dm : d ≤ m := by
      refine Nat.not_lt.mp fun q => ?_
      have := x.2.2 m q e.2.1
      have := e.2.2.1
      have : 0 ≤ h.most := by have := a.p1; omega
      omega
    have h1 := e.1
    by_cases c3 : m = s.day
    · omega
    · -- later than now: no open day ahead brings as much
      have md : m ≤ d := by
        refine Nat.not_lt.mp fun q => ?_
        by_cases c4 : s.day ≤ d
        · have := e.2.2.2 d c4 q x.1
          have g := x.2.1
          have eo : h.over s m = s.pot + h.given m - h.given s.day - h.need s.ant := rfl
          have eo2 : h.over s d = s.pot + h.given d - h.given s.day - h.need s.ant := rfl
          omega
        · have := e.2.2.2 s.day (Nat.le_refl _) (by omega) a.op
          have g := x.2.1
          have gm := given_mono hN hL (show d ≤ s.day by omega)
          have eo : h.over s m = s.pot + h.given m - h.given s.day - h.need s.ant := rfl
          have eo2 : h.over s s.day = s.pot + h.given s.day - h.given s.day - h.need s.ant := rfl
          omega
      omega
end Hill
end Hz
set_option Elab.async false
set_option linter.all false
set_option maxRecDepth 100000
set_option maxHeartbeats 4000000
namespace Z64
open PySem PySem.Spec PyProof.Rows L2 Hz
section
variable {P : Program} {w : World} {K : PySem.W.Frag} {mg : Str → Option Value} {base : Heap}
local macro_rules | `(tactic| walk_at "un") => `(tactic| dsimp only [tSeq, tIfS, tRet, tAsg, tDrop, tOr, tAnd, tNot, tAndV, tOrV, tNotV, tTest, tB, tOp, tUn, tCB, tCons, tNil, tC, tNext, tIf, tChain, gName, tPar, tPar3, tTup, tLst])
theorem HillOk.nn0 {h : Hill} (k : HillOk h) : ∀ m ∈ h.needs, 0 ≤ m := fun m hm => by have := k.n0 m hm; omega
theorem need_dat {h : Hill} {i : Nat} (hi : i < h.needs.length) : (h.needs.map PyData.int)[i]? = some (.int (h.need i)) := by
  unfold Hill.need
  rw [List.getElem?_map, List.getElem?_eq_getElem hi]
  rfl
theorem need_bd {h : Hill} (hk : HillOk h) {i : Nat} (hi : i < h.needs.length) : 1 ≤ h.need i ∧ h.need i ≤ 10 ^ 14 := by
  unfold Hill.need
  rw [List.getElem?_eq_getElem hi]
  exact hk.n0 _ (List.getElem_mem hi)
def lineAt (h : Hill) (s : Now) : Int := h.given s.day - s.pot
def spLineOf (K : PySem.W.Frag) : Sp := fun vs H Q _ => ∃ (t t2 : Bool) (h : Hill) (s : Now) (v u : V), vs = [v, u] ∧ Dp K H v (h.dat t) ∧ HillOk h ∧ Dp K H u (s.dat t2) ∧ ∀ H', Ex [] H H' → Q (.int (lineAt h s)) H'
theorem ok_line_of (T : Txt K mg) : FnOk P w K mg base CX0 3 T.a_line_of T.d_line_of P_line_of (spLineOf K) := by
  have nd := sc_line_of.nd
  have G_given_by := ok_given_by (P := P) (w := w) (base := base) T
  refine T.F_line_of.ok sc_line_of (fun vs H Q E h => ?_) (fun cdv A outer s H vs Q E hr h => ?_)
  · obtain ⟨t, t2, h, s, v, u, rfl, _⟩ := h
    rfl
  · obtain ⟨t, t2, h, st, v, u, rfl, hD, hk, hS, q⟩ := h
    have hr_given_by := hr
    refine ⟨_, (pss_one (ps_ret (pe_op op_sub (pe_call G_given_by hr_given_by (by rfl) T.m_given_by T.k_given_by T.b_given_by .nil pass0 (pa_cons (pv 0) (pa_cons (pe_ix (ixK K) (pv 1) pe_int (fun _ _ => rfl)) pa_nil))) (pe_ix (ixK K) (pv 1) pe_int (fun _ _ => rfl))))), ?_⟩
    walk_at "un"
    refine ⟨_, rfl, _, rfl, z_ixD hS (Le.refl _) (j := 0) rfl rfl fun d hd => ?_⟩
    obtain rfl := dp_int hd
    refine ⟨t, h, v, st.day, rfl, hD, hk, fun r H1 er x1 => ?_⟩
    subst er
    refine ⟨_, rfl, z_ixD (dp_le x1.le0 _ _ hS) (Le.refl _) (j := 2) rfl rfl fun d hd => ?_⟩
    obtain rfl := dp_int hd
    exact ⟨_, _, rfl, rfl, q H1 x1⟩
def spNext (K : PySem.W.Frag) : Sp := fun vs H Q _ => ∃ (t : Bool) (h : Hill) (v : V) (n : Nat), vs = [v, .int n] ∧ Dp K H v (h.dat t) ∧ HillOk h ∧ 1 ≤ n ∧ ∀ (m : Nat) H', h.DayOf n m → Ex [] H H' → Q (.int (h.given m)) H'
theorem ok_given_next (T : Txt K mg) : FnOk P w K mg base CX0 3 T.a_given_next T.d_given_next P_given_next (spNext K) := by
  have nd := sc_given_next.nd
  have G_given_by := ok_given_by (P := P) (w := w) (base := base) T
  have G_day_of := ok_day_of (P := P) (w := w) (base := base) T
  refine T.F_given_next.ok sc_given_next (fun vs H Q E h => ?_) (fun cdv A outer s H vs Q E hr h => ?_)
  · obtain ⟨t, h, v, n, rfl, _⟩ := h
    rfl
  · obtain ⟨t, h, v, n, rfl, hD, hk, hn, q⟩ := h
    have hr_given_by := hr
    have hr_day_of := hr
    refine ⟨_, (pss_one (ps_ret (pe_call G_given_by hr_given_by (by rfl) T.m_given_by T.k_given_by T.b_given_by .nil pass0 (pa_cons (pv 0) (pa_cons (pe_call G_day_of hr_day_of (by rfl) T.m_day_of T.k_day_of T.b_day_of .nil pass0 (pa_cons (pv 0) (pa_cons (pv 1) pa_nil))) pa_nil))))), ?_⟩
    walk_at "un"
    refine ⟨_, rfl, _, rfl, _, rfl, t, h, v, n, rfl, hD, hk, hn, fun m H1 hm x1 => ?_⟩
    exact ⟨t, h, v, m, rfl, dp_le x1.le0 _ _ hD, hk, fun r H2 er x2 => by subst er; exact q m H2 hm (x1.trans x2)⟩
def spLostAt (K : PySem.W.Frag) : Sp := fun vs H Q _ => ∃ (t : Bool) (h : Hill) (v : V) (y : Int), vs = [v, .int y] ∧ Dp K H v (h.dat t) ∧ HillOk h ∧ ∀ z H', h.Lost y z → Ex [] H H' → Q (.int z) H'
theorem ok_lost_at (T : Txt K mg) : FnOk P w K mg base CX0 4 T.a_lost_at T.d_lost_at P_lost_at (spLostAt K) := by
  have nd := sc_lost_at.nd
  have G_year_drops := ok_year_drops (P := P) (w := w) (base := base) T
  have G_given_next := ok_given_next (P := P) (w := w) (base := base) T
  refine T.F_lost_at.ok sc_lost_at (fun vs H Q E h => ?_) (fun cdv A outer s H vs Q E hr h => ?_)
  · obtain ⟨t, h, v, y, rfl, _⟩ := h
    rfl
  · obtain ⟨t, h, v, y, rfl, hD, hk, q⟩ := h
    have hr_year_drops := hr.mono (show 1 ≤ 3 by decide)
    have hr_given_next := hr
    refine ⟨_, (pss_cons (ps_set (i := 2) nd rfl (Or.inl rfl) (pe_call G_year_drops hr_year_drops (by rfl) T.m_year_drops T.k_year_drops T.b_year_drops .nil pass0 (pa_cons (pv 0) pa_nil)))
      (pss_cons (ps_set (i := 3) nd rfl (Or.inl rfl) (pe_op op_add (pe_op op_mod (pv 1) (pv 2)) (pv 2)))
      (pss_one (ps_ret (pe_callB (call_max2 rfl) (by rfl) T.z_max (by decide +kernel) (pa_cons pe_int (pa_cons (pe_op op_sub (pe_op op_sub (pe_call G_given_next hr_given_next (by rfl) T.m_given_next T.k_given_next T.b_given_next .nil pass0 (pa_cons (pv 0) (pa_cons (pv 3) pa_nil))) (pe_ix (ixK K) (pv 0) pe_int (fun _ _ => rfl))) (pv 3)) pa_nil))))))), ?_⟩
    walk_at "un"
    have hd := hk.dr
    have e := Int.mul_ediv_add_emod y h.drops
    have e0 := Int.emod_nonneg y (show h.drops ≠ 0 by omega)
    refine ⟨_, rfl, t, h, v, rfl, hD, hk, fun H1 x1 => ?_⟩
    refine ⟨_, rfl, _, rfl, _, _, rfl, rfl, hd, _, rfl, _, _, rfl, rfl, ?_⟩
    obtain ⟨n, hn⟩ := Int.eq_ofNat_of_zero_le (show 0 ≤ y % h.drops + h.drops by omega)
    walk_at "un"
    rw [hn]
    refine ⟨_, rfl, _, rfl, t, h, v, n, rfl, dp_le x1.le0 _ _ hD, hk, by omega, fun m H2 hm x2 => ?_⟩
    have hD2 := dp_le (x1.trans x2).le0 _ _ hD
    refine ⟨_, rfl, z_ixD hD2 (Le.refl _) (j := 2) rfl rfl fun u hu => ?_⟩
    obtain rfl := dp_int hu
    refine ⟨_, _, rfl, rfl, _, rfl, _, _, rfl, rfl, _, _, rfl, ?_⟩
    have en : y + (1 - y / h.drops) * h.drops = n := by
      rw [Int.sub_mul, Int.one_mul, Int.mul_comm (y / h.drops), ← hn]
      omega
    have := q _ H2 ⟨1 - y / h.drops, m, by rw [en]; omega, by rw [en]; exact hm, rfl⟩ (x1.trans x2)
    rw [en] at this
    have em : (if h.given m - h.most - (n : Int) > 0 then h.given m - h.most - (n : Int) else 0) = max 0 (h.given m - h.most - (n : Int)) := by
      split <;> omega
    rw [em]
    exact this
def spLed (K : PySem.W.Frag) : Sp := fun vs H Q _ => ∃ (t : Bool) (h : Hill) (v : V) (i : Nat) (x : Int), vs = [v, .int i, .int x] ∧ Dp K H v (h.dat t) ∧ HillOk h ∧ i < h.needs.length ∧ ∀ z H', h.Lost (x + h.need i) z → Ex [] H H' → Q (.int (x + h.need i + z)) H'
end
end Z64
set_option Elab.async false
set_option linter.all false
set_option maxRecDepth 100000
set_option maxHeartbeats 4000000
namespace Z64
open PySem PySem.Spec PyProof.Rows L2 Hz
section
variable {P : Program} {w : World} {K : PySem.W.Frag} {mg : Str → Option Value} {base : Heap}
local macro_rules | `(tactic| walk_at "un") => `(tactic| try dsimp only [tSeq, tIfS, tRet, tAsg, tDrop, tOr, tAnd, tNot, tAndV, tOrV, tNotV, tTest, tB, tOp, tUn, tCB, tCons, tNil, tC, tNext, tIf, tChain, gName, tPar, tPar3, tTup, tLst])
theorem hill_parts {H : Hp} {v : V} {h : Hill} (hD : Dp K H v (h.dat true)) : ∃ a ya na ys ns, v = .ref a ∧ SqT K H a [.ref ya, .ref na, .int h.most] ∧ SqX true K H ya ys ∧ DpAll K H ys (h.year.map fun d => sq true [.int d.1, .bool d.2]) ∧ SqX true K H na ns ∧ DpAll K H ns (h.needs.map PyData.int) ∧
    ys.length = h.L ∧ ns.length = h.needs.length := by
  obtain ⟨a, xs, rfl, hS, hA⟩ := dp_tup hD
  cases hA with | cons hyD hA => cases hA with | cons hnD hA => cases hA with | cons hcD hA =>
  cases hA
  obtain rfl := dp_int hcD
  obtain ⟨ya, ys, rfl, hyS, hyA⟩ := dp_sq hyD
  obtain ⟨na, ns, rfl, hnS, hnA⟩ := dp_sq hnD
  have ly := dpa_len hyA
  rw [List.length_map] at ly
  have ln := dpa_len hnA
  rw [List.length_map] at ln
  exact ⟨a, ya, na, ys, ns, rfl, hS, hyS, hyA, hnS, hnA, ly, ln⟩
/-- any day's number: a day from 0, some years sooner -/
theorem day_shift {L : Nat} (hL : 0 < L) (n : Nat) (k : Int) : ((n : Int) - k * L + 1) / (L : Int) = ((n + 1) / L : Nat) - k ∧ ((n : Int) - k * L + 1) % (L : Int) = ((n + 1) % L : Nat) ∧ ((n : Int) - k * L) % (L : Int) = (n % L : Nat) := by
  have e : (n : Int) - k * L + 1 = ((n + 1 : Nat) : Int) + (-k) * L := by rw [Int.neg_mul]; omega
  have e2 : (n : Int) - k * L = (n : Int) + (-k) * L := by rw [Int.neg_mul]; omega
  refine ⟨?_, ?_, ?_⟩
  · rw [e, Int.add_mul_ediv_right _ _ (by omega), Int.natCast_ediv]; omega
  · rw [e, Int.add_mul_emod_self_right, Int.natCast_emod]
  · rw [e2, Int.add_mul_emod_self_right, Int.natCast_emod]
def spGivenZ (K : PySem.W.Frag) : Sp := fun vs H Q _ => ∃ (h : Hill) (v : V) (n : Nat) (k : Int), vs = [v, .int ((n : Int) - k * h.L)] ∧ Dp K H v (h.dat true) ∧ HillOk h ∧ ∀ H', Ex [] H H' → Q (.int (h.given n - k * h.drops)) H'
theorem ok_given (T : Txt K mg) : FnOk P w K mg base CX0 2 T.a__law_given T.d__law_given P__law_given (spGivenZ K) := by
  have nd := sc__law_given.nd
  have G__law_whole := ok_whole (P := P) (w := w) (base := base) T
  refine T.F__law_given.ok sc__law_given (fun vs H Q E h => ?_) (fun cdv A outer s H vs Q E hr h => ?_)
  · obtain ⟨h, v, n, k, rfl, _⟩ := h
    rfl
  · obtain ⟨h, v, n, k, rfl, hD, hk, q⟩ := h
    have hr__law_whole := hr
    have hl := hk.y2
    have hL0 := hk.L0
    obtain ⟨s1, s2, _⟩ := day_shift hL0 n k
    refine ⟨_, (pss_cons (ps_set (i := 2) nd rfl (Or.inl rfl) (pe_ix (ixK K) (pv 0) pe_int (fun _ _ => rfl)))
      (pss_cons (ps_set (i := 3) nd rfl (Or.inl rfl) (pe_callB (sumK K) (by rfl) T.z_sum (by decide +kernel) (pa_cons (pe_lc (own := [("_law_drip", 4), ("_law_lit", 5)]) (by rfl) nd (pi_seqK K (pe_slice (slK K) (pv 2) po_none (po_some (pe_op op_mod (pe_op op_add (pv 1) pe_int) (pe_callB (lenK K) (by rfl) T.z_len (by decide +kernel) (pa_cons (pv 2) pa_nil)))))) (blkOk_by (N := N__law_given) (own := [("_law_drip", 4), ("_law_lit", 5)]) (sc := defScope s__law_given) (by decide +kernel)) (fun _ _ _ _ _ => (pg_tupK K 2 (by rfl) (pgs_cons (pg_name (i := 4) nd rfl (Or.inl rfl)) (pgs_cons (pg_name (i := 5) nd rfl (Or.inl rfl)) pgs_nil)))) (fun _ _ _ _ _ => pts_nil) (fun _ _ _ _ _ => (pv 4))) pa_nil)))
      (pss_one (ps_ret (pe_op op_add (pe_op op_mul (pe_op op_fdivW (pe_op op_add (pv 1) pe_int) (pe_callB (lenK K) (by rfl) T.z_len (by decide +kernel) (pa_cons (pv 2) pa_nil))) (pe_call G__law_whole hr__law_whole (by rfl) T.m__law_whole T.k__law_whole T.b__law_whole .nil pass0 (pa_cons (pv 0) pa_nil))) (pv 3)))))), ?_⟩
    obtain ⟨a, ya, na, ys, ns, rfl, hS, hyS, hyA, hnS, hnA, hL, ln⟩ := hill_parts hD
    have hL2 : h.L ≤ 20 := hk.y2
    walk_at "un"
    refine ⟨_, rfl, z_ix (.inr hS) (v := .ref ya) rfl ?_⟩
    walk_at "un"
    refine z_lcS (B := []) (C := []) (t := true) (xs := ys.take ((n + 1) % h.L)) (fun R r => ⟨_, rfl, _, rfl, _, _, rfl, rfl, _, rfl, ya, ys, rfl, hyS.sq, ?_⟩)
      (fun i v _ => ∃ d, (h.year.take ((n + 1) % h.L))[i]? = some d ∧ v = .int d.1) (fun _ _ => True) (fun H1 x1 => ⟨lcOk0 (by rw [List.length_take]; omega), fun i x _ hx D H' hD' nB e1 _ tD N hN => ?_, fun D zs H' hD' hz lz rz e1 _ => ?_⟩)
    · rw [hL]
      refine ⟨_, _, rfl, rfl, (by show (0 : Int) < _; omega), _, rfl, z_sl (t := true) hyS fun p1 H3 x3 h3 => r p1 H3 x3 (by rw [wo_nil]; rw [s2, cut_head] at h3; exact h3)⟩
    · have hi : i < (n + 1) % h.L := by
        obtain ⟨hh, _⟩ := List.getElem?_eq_some_iff.mp hx
        rw [List.length_take] at hh
        omega
      rw [List.getElem?_take, if_pos hi] at hx
      obtain ⟨d, hd, hdD⟩ := dpa_get' hyA hx
      rw [List.getElem?_map] at hd
      obtain ⟨d0, hd0, rfl⟩ := Option.map_eq_some_iff.mp hd
      obtain ⟨da, rfl, hda⟩ := day_parts (dp_le (x1.trans e1).le0 _ _ hdD)
      exact ⟨da, _, rfl, hda, rfl, _, _, rfl, _, _, rfl, rfl, rfl, _, rfl, hN _ H' (Ex.refl _ _) ⟨d0, by rw [List.getElem?_take, if_pos hi]; exact hd0, rfl⟩ trivial⟩
    · have ez := ys_ints (f := fun d : Int × Bool => d.1) (by rw [lz, List.length_take, List.length_take, hL]; rfl) rz
      refine ⟨D, _, rfl, .inl (SqL.of (by rw [hz, ez])), ?_⟩
      walk_at "un"
      have x2 := x1.trans e1
      refine ⟨_, rfl, _, _, rfl, rfl, _, rfl, ya, ys, rfl, (le_x x2.le0 hyS).sq, ?_⟩
      rw [hL]
      refine ⟨_, _, rfl, rfl, divw_of (by omega) (by omega), _, rfl, h, _, rfl, dp_le x2.le0 _ _ hD, hk, fun H2 x3 => ?_⟩
      refine ⟨_, _, rfl, rfl, .inr ⟨by have := hk.dr; omega, by have := hk.dm; omega⟩, _, rfl, _, _, rfl, rfl, ?_⟩
      have := q H2 (x2.trans x3)
      have e : h.given n - k * h.drops = ((n : Int) - k * h.L + 1) / (h.L : Int) * h.drops + ((h.year.take ((n + 1) % h.L)).map fun d => d.1).sum := by
        rw [s1]
        unfold Hill.given Hill.ge
        rw [Int.sub_mul]
        omega
      rw [e] at this
      exact this
def spAt (K : PySem.W.Frag) : Sp := fun vs H Q _ => ∃ (h : Hill) (s : Now) (v u : V), vs = [v, u] ∧ Dp K H v (h.dat true) ∧ HillOk h ∧ Dp K H u (s.dat true) ∧ ∀ H', Ex [] H H' → Q (.int (lineAt h s)) H'
/-- the first open day, sooner than day 0 too, by which so many drops were given -/
def spDawnZ (K : PySem.W.Frag) : Sp := fun vs H Q _ => ∃ (h : Hill) (v : V) (y : Int), vs = [v, .int y] ∧ Dp K H v (h.dat true) ∧ HillOk h ∧ ∀ (m : Nat) (k : Int) H', 1 ≤ y + k * h.drops → h.DayOf (y + k * h.drops) m → Ex [] H H' → Q (.int ((m : Int) - k * h.L)) H'
def spSpilt (K : PySem.W.Frag) : Sp := fun vs H Q _ => ∃ (h : Hill) (v : V) (y : Int), vs = [v, .int y] ∧ Dp K H v (h.dat true) ∧ HillOk h ∧ ∀ z H', h.Lost y z → Ex [] H H' → Q (.int z) H'
def spLedOn (K : PySem.W.Frag) : Sp := fun vs H Q _ => ∃ (h : Hill) (v : V) (i : Nat) (x : Int), vs = [v, .int i, .int x] ∧ Dp K H v (h.dat true) ∧ HillOk h ∧ i < h.needs.length ∧ ∀ z H', h.Lost (x + h.need i) z → Ex [] H H' → Q (.int (x + h.need i + z)) H'
end
end Z64
set_option Elab.async false
set_option linter.all false
set_option maxRecDepth 100000
set_option maxHeartbeats 4000000
namespace Z64
open PySem PySem.Spec PyProof.Rows L2 Hz
section
variable {P : Program} {w : World} {K : PySem.W.Frag} {mg : Str → Option Value} {base : Heap}
local macro_rules | `(tactic| walk_at "un") => `(tactic| dsimp only [tSeq, tIfS, tRet, tAsg, tDrop, tOr, tAnd, tNot, tAndV, tOrV, tNotV, tTest, tB, tOp, tUn, tCB, tCons, tNil, tC, tNext, tIf, tChain, gName, tPar, tPar3, tTup, tLst])
theorem max_if (i j : Int) : (if i - j > 0 then i - j else 0) = i - min i j := by
  rw [Int.min_def]
  split <;> split <;> omega
/-- a turn, day by day -/
def spSat (K : PySem.W.Frag) : Sp := fun vs H Q _ => ∃ (h : Hill) (v : V) (s : Now) (u : V) (m : Nat), vs = [v, u] ∧ Dp K H v (h.dat true) ∧ HillOk h ∧ Dp K H u (s.dat true) ∧ s.ant < h.needs.length ∧ h.Eve s m ∧
  ∀ z H', Fr K H H' (.ref z) (rowD (h.goes s m)) → H z = none → Ex [] H H' → Q (.ref z) H'
end
end Z64
set_option Elab.async false
set_option linter.all false
namespace Hz
open PySem PyProof.Rows L2
variable {K : PySem.W.Frag}
theorem dpa_snoc {G : Hp} : ∀ {l : List V} {ds : List PyData} {v : V} {d : PyData}, DpAll K G l ds → Dp K G v d → DpAll K G (l ++ [v]) (ds ++ [d])
  | _, _, _, _, .nil, h => .cons h .nil
  | _, _, _, _, .cons a b, h => .cons a (dpa_snoc b h)
/-- a comprehension with a test, over a list or a tuple: of each item what f tells -/
theorem z_lcQ {t : Bool} {g : TG} {tt : TT} {te : TE} {vs : List Nat} {σ : L2.St} {H : Hp} {B : List Addr} {xs : List V} {tl : TE} {Q : VK} (htl : ∀ R : VK, (∀ a H1, Ex [] H H1 → SqX t K H1 a xs → R (.ref a) H1) → tl σ H R) (hn : xs.length < 100000) (f : Nat → Option PyData) (hB : ∀ b ∈ B, H b ≠ none)
    (turn : ∀ H1, Ex [] H H1 → ∀ (i : Nat) x, xs[i]? = some x → ∀ D H', H' D ≠ none → D ∉ B → Ex [] H1 H' → ∀ (N : VK) (M : Hp → Prop), (∀ d z H3, f i = some d → Ex [] H' H3 → Dp K (wo (D :: B) H3) z d → N z H3) → (f i = none → ∀ H3, Ex [] H' H3 → M H3) →
      g x (wipe σ vs) H' fun σ2 H2 => wipe σ2 vs = wipe σ vs ∧ tt σ2 H2 fun b H3 => if b = true then te σ2 H3 N else M H3)
    (fin : ∀ D zs H', H D = none → H' D = some (.lst zs) → zs.length ≤ xs.length → DpAll K (wo (D :: B) H') zs ((List.range xs.length).filterMap f) → Ex [] H H' → Q (.ref D) H') : tLc (fun σ H R => iList K tl σ H R ∨ iTup K tl σ H R) g tt te vs σ H Q := by
  have lt : ∀ {i : Nat} {x : V}, xs[i]? = some x → i < xs.length := fun h => by
    obtain ⟨h, _⟩ := List.getElem?_eq_some_iff.mp h
    exact h
  -- what holds behind i items
  have core : ∀ H1, Ex [] H H1 → ∀ D, H1 D = none → ∀ i x, xs[i]? = some x → ∀ H', (Ex [] H1 H' ∧ ∃ zs, H' D = some (.lst zs) ∧ zs.length ≤ i ∧ DpAll K (wo (D :: B) H') zs ((List.range i).filterMap f)) →
      g x (wipe σ vs) H' fun σ2 H2 => wipe σ2 vs = wipe σ vs ∧ tt σ2 H2 fun b H3 => if b = true then te σ2 H3 fun y H4 => ∃ acc, H4 D = some (.lst acc) ∧ acc.length < sizeLine ∧ (Ex [] H1 (upd H4 D (.lst (acc ++ [y]))) ∧ ∃ zs, upd H4 D (.lst (acc ++ [y])) D = some (.lst zs) ∧ zs.length ≤ i + 1 ∧ DpAll K (wo (D :: B) (upd H4 D (.lst (acc ++ [y])))) zs ((List.range (i + 1)).filterMap f)) else (Ex [] H1 H3 ∧ ∃ zs, H3 D = some (.lst zs) ∧ zs.length ≤ i + 1 ∧ DpAll K (wo (D :: B) H3) zs ((List.range (i + 1)).filterMap f)) := fun H1 x1 D hD i x hx H' hP => by
    obtain ⟨e1, zs, hz, lz, hA⟩ := hP
    have nB : D ∉ B := fun z => hB D z (x1.free hD)
    have up : ∀ {G G' : Hp} {o : HO}, Ex [] G G' → Le (wo (D :: B) G) (wo (D :: B) (upd G' D o)) := fun x a o q => by
      obtain ⟨n1, n2⟩ := wo_some q
      exact wo_of n1 (by rw [upd_ne (fun z => n1 (by rw [z]; exact List.mem_cons_self))]; exact x.1 _ _ (by simp) n2)
    have nn : H' D ≠ none := by rw [hz]; exact fun z => by cases z
    refine turn H1 x1 i x hx D H' nn nB e1 _ _ (fun d z H3 hf x3 hd => ?_) (fun hf H3 x3 => ?_)
    · refine ⟨zs, x3.1 _ _ (by simp) hz, sz_lt (by have := lt hx; omega), (e1.trans x3).mutNew' hD, zs ++ [z], upd_same, by rw [List.length_append, List.length_singleton]; omega, ?_⟩
      rw [List.range_succ, List.filterMap_append, List.filterMap_cons, hf, List.filterMap_nil]
      exact dpa_snoc (dpa_le (up x3) _ _ hA) (dp_le (up (Ex.refl _ _)) _ _ hd)
    · refine ⟨e1.trans x3, zs, x3.1 _ _ (by simp) hz, by omega, ?_⟩
      rw [List.range_succ, List.filterMap_append, List.filterMap_cons, hf, List.filterMap_nil, List.append_nil]
      exact dpa_le x3.nil.wo _ _ hA
  have start : ∀ H1, ∀ D, H1 D = none → (Ex [] H1 (upd H1 D (.lst [])) ∧ ∃ zs, upd H1 D (.lst []) D = some (.lst zs) ∧ zs.length ≤ 0 ∧ DpAll K (wo (D :: B) (upd H1 D (.lst []))) zs ((List.range 0).filterMap f)) := fun H1 D hD => ⟨Ex.new hD, [], upd_same, Nat.le_refl _, .nil⟩
  cases t with
  | false => exact .inl (htl _ fun a H1 x1 hS => ⟨a, rfl, ⟨xs, hS⟩, fun D hD => lc_list (fun i H' => Ex [] H1 H' ∧ ∃ zs, H' D = some (.lst zs) ∧ zs.length ≤ i ∧ DpAll K (wo (D :: B) H') zs ((List.range i).filterMap f)) (start H1 D hD) (fun i H' _ p => le_l p.1.le0 hS) (fun i x H' hx p => core H1 x1 D hD i x hx H' p) (fun H' p => by obtain ⟨e1, zs, hz, lz, hA⟩ := p; exact fin D zs H' (x1.free hD) hz lz hA (x1.trans e1))⟩)
  | true => exact .inr (htl _ fun a H1 x1 hS => ⟨a, rfl, ⟨xs, hS⟩, fun D hD => lc_tup (fun i H' => Ex [] H1 H' ∧ ∃ zs, H' D = some (.lst zs) ∧ zs.length ≤ i ∧ DpAll K (wo (D :: B) H') zs ((List.range i).filterMap f)) (start H1 D hD) (fun i H' _ p => le_t p.1.le0 hS) (fun i x H' hx p => core H1 x1 D hD i x hx H' p) (fun H' p => by obtain ⟨e1, zs, hz, lz, hA⟩ := p; exact fin D zs H' (x1.free hD) hz lz hA (x1.trans e1))⟩)
end Hz
set_option Elab.async false
set_option linter.all false
set_option maxRecDepth 100000
set_option maxHeartbeats 4000000
namespace Z64
open PySem PySem.Spec PyProof.Rows L2 Hz
section
variable {P : Program} {w : World} {K : PySem.W.Frag} {mg : Str → Option Value} {base : Heap}
local macro_rules | `(tactic| walk_at "un") => `(tactic| dsimp only [tSeq, tIfS, tRet, tAsg, tDrop, tOr, tAnd, tNot, tAndV, tOrV, tNotV, tTest, tB, tOp, tUn, tCB, tCons, tNil, tC, tNext, tIf, tChain, gName, tPar, tPar3, tTup, tLst])
/-- a turn, whole years skipped -/
def spFar (K : PySem.W.Frag) : Sp := fun vs H Q _ => ∃ (h : Hill) (v : V) (s : Now) (u : V), vs = [v, u] ∧ Dp K H v (h.dat true) ∧ HillOk h ∧ Dp K H u (s.dat true) ∧ h.At s ∧
  ∀ r z H', h.Turn s r → Fr K H H' (.ref z) (rowD r) → H z = none → Ex [] H H' → Q (.ref z) H'
/-- a row of turns by the law's own sitting -/
def spRows (K : PySem.W.Frag) : Sp := fun vs H Q _ => ∃ (h : Hill) (v : V) (s : Now) (u : V) (n : Nat), vs = [v, u, .int n] ∧ Dp K H v (h.dat true) ∧ HillOk h ∧ Dp K H u (s.dat true) ∧ h.At s ∧ n ≤ 1000 ∧
  ∀ l p us H', h.Rows s l → l.length = n → H p = none → H' p = some (.lst us) → (∀ B : List Addr, (∀ b ∈ B, H b ≠ none) → DpAll K (wo (p :: B) H') us (l.map rowD)) → Ex [] H H' → Q (.ref p) H'
end
end Z64
set_option Elab.async false
set_option linter.all false
namespace Hz
open PySem PyProof.Rows
/-- whole numbers of some size and truths, in rows of twenty at most -/
def Plain : Nat → PyData → Prop
  | _, .int i => i.natAbs < 10 ^ 20
  | _, .bool _ => True
  | n + 1, .list ds => ds.length ≤ 20 ∧ ∀ d ∈ ds, Plain n d
  | n + 1, .tuple ds => ds.length ≤ 20 ∧ ∀ d ∈ ds, Plain n d
  | _, _ => False
structure PlainOk (n : Nat) (d : PyData) : Prop where
  sh : d.showable = true
  hd : d.hasDict = false
  dp : d.depth ≤ n
  lv : d.leavesShort 21 = true
  bk : d.bulk ≤ 21 ^ n - 1
theorem int_log {i : Int} (h : i.natAbs < 10 ^ 20) : i.natAbs.log2 < 1920 := by
  by_cases z : i.natAbs = 0
  · rw [z]; decide
  · rw [Nat.log2_lt z]
    exact Nat.lt_of_lt_of_le h (Nat.le_trans (show 10 ^ 20 ≤ 2 ^ 100 by decide) (Nat.pow_le_pow_right (by decide) (by decide)))
theorem plain_int (n : Nat) {i : Int} (h : i.natAbs < 10 ^ 20) : PlainOk n (.int i) := by
  refine ⟨?_, by simp only [PyData.hasDict], by simp [PyData.depth], ?_, by simp [PyData.bulk]⟩
  · simp only [PyData.showable, decide_eq_true_eq]
    exact int_log h
  · simp only [PyData.leavesShort, decide_eq_true_eq]
    have := int_text_length_le10 (k := 20) (by decide) h
    show (Str.ofString (toString i)).length ≤ 21
    rw [PySem.ofString_length]
    exact this
theorem plain_all {n : Nat} : ∀ {ds : List PyData}, (∀ d ∈ ds, PlainOk n d) → PyData.showableAll ds = true ∧ PyData.hasDictAll ds = false ∧ PyData.depthAll ds ≤ n ∧ PyData.leavesShortAll 21 ds = true ∧ PyData.bulkAll ds ≤ ds.length * 21 ^ n
  | [], _ => ⟨by simp [PyData.showableAll], by simp [PyData.hasDictAll], by simp [PyData.depthAll], by simp [PyData.leavesShortAll], by simp [PyData.bulkAll]⟩
  | d :: ds, h => by
    obtain ⟨a1, a2, a3, a4, a5⟩ := h d (by simp)
    obtain ⟨b1, b2, b3, b4, b5⟩ := plain_all fun d hd => h d (List.mem_cons_of_mem _ hd)
    have hp : 1 ≤ 21 ^ n := Nat.one_le_pow _ _ (by decide)
    refine ⟨by simp [PyData.showableAll, a1, b1], by simp [PyData.hasDictAll, a2, b2], ?_, by simp [PyData.leavesShortAll, a4, b4], ?_⟩
    · simp only [PyData.depthAll]; omega
    · simp only [PyData.bulkAll, List.length_cons]
      rw [Nat.add_mul, Nat.one_mul]
      omega
theorem plain_ok : ∀ {n : Nat} {d : PyData}, Plain n d → PlainOk n d := by
  intro n
  induction n with
  | zero =>
    intro d h
    cases d with
    | int i => exact plain_int 0 h
    | bool b => exact ⟨by simp [PyData.showable], by simp [PyData.hasDict], by simp [PyData.depth], by simp [PyData.leavesShort], by simp [PyData.bulk]⟩
    | none => exact absurd h (by simp [Plain])
    | str _ => exact absurd h (by simp [Plain])
    | list _ => exact absurd h (by simp [Plain])
    | tuple _ => exact absurd h (by simp [Plain])
    | dict _ => exact absurd h (by simp [Plain])
  | succ n ih =>
    intro d h
    have seq : ∀ ds : List PyData, ds.length ≤ 20 → (∀ d ∈ ds, Plain n d) → PyData.showableAll ds = true ∧ PyData.hasDictAll ds = false ∧ PyData.depthAll ds ≤ n ∧ PyData.leavesShortAll 21 ds = true ∧ PyData.bulkAll ds ≤ 21 ^ (n + 1) - 1 := fun ds hl hd => by
      obtain ⟨a, b, c, d, e⟩ := plain_all fun d h => ih (hd d h)
      refine ⟨a, b, c, d, ?_⟩
      have hp : 1 ≤ 21 ^ n := Nat.one_le_pow _ _ (by decide)
      have : ds.length * 21 ^ n ≤ 20 * 21 ^ n := Nat.mul_le_mul_right _ hl
      rw [Nat.pow_succ]
      omega
    cases d with
    | int i => exact plain_int _ h
    | bool b => exact ⟨by simp [PyData.showable], by simp [PyData.hasDict], by simp [PyData.depth], by simp [PyData.leavesShort], by simp [PyData.bulk]⟩
    | none => exact absurd h (by simp [Plain])
    | str _ => exact absurd h (by simp [Plain])
    | list ds =>
      obtain ⟨a, b, c, d, e⟩ := seq ds h.1 h.2
      exact ⟨by simp [PyData.showable, a], by simp [PyData.hasDict, b], by simp only [PyData.depth]; omega, by simp [PyData.leavesShort, d], by simp only [PyData.bulk]; exact e⟩
    | tuple ds =>
      obtain ⟨a, b, c, d, e⟩ := seq ds h.1 h.2
      exact ⟨by simp [PyData.showable, a], by simp [PyData.hasDict, b], by simp only [PyData.depth]; omega, by simp [PyData.leavesShort, d], by simp only [PyData.bulk]; exact e⟩
    | dict _ => exact absurd h (by simp [Plain])
/-- repr of such data -/
theorem repr_plain {K : PySem.W.Frag} {a : Addr} {d : PyData} {H : L2.Hp} {Q : L2.VK} (hd : L2.Dp K H (.ref a) d) (h : Plain 4 d) (q : Q (.str d.shown) H) : rRepr K [.ref a] H Q := by
  obtain ⟨h1, h2, h3, h4, h5⟩ := plain_ok h
  refine ⟨.ref a, d, rfl, hd, h1, h2, by omega, ?_, ⟨a, rfl⟩, q⟩
  have := PyData.shown_le_bulk 21 (by decide) d h4
  have e : sizeLine = 16777216 := by decide
  have e2 : 21 ^ 4 - 1 = 194480 := by decide
  omega
end Hz
set_option Elab.async false
set_option linter.all false
set_option maxRecDepth 100000
set_option maxHeartbeats 2000000
namespace Hz
open PySem PySem.Spec PyProof.Rows L2
/-! ### truths among numbers; texts of scalars -/
def b01 (b : Bool) : Int := if b = true then 1 else 0
section
variable {X : Cx}
/-- str of a number or a truth -/
theorem strX : CallR X (.type "str") (fun xs H Q => (∃ i, xs = [.int i] ∧ i.natAbs.log2 < 1920 ∧ Q (.str (toString i)) H) ∨ ∃ b : Bool, xs = [.bl b] ∧ Q (.str (if b = true then "True" else "False")) H) := by
  intro pins s σ H xs us Q J r h
  rcases h with ⟨i, rfl, hz, q⟩ | ⟨b, rfl, q⟩
  · obtain ⟨u, rfl, t, rfl⟩ := vals1 r
    exact PySem.P.str_of_int hz ⟨.str _, H, J.tok _, ⟨_, rfl⟩, q⟩
  · obtain ⟨u, rfl, e⟩ := Vals.one r
    cases e
    exact PySem.P.str_of_bool ⟨.str _, H, J.tok _, ⟨_, rfl⟩, q⟩
/-- what an int or a truth counts -/
def cnt : V → Option Int
  | .int i => some i
  | .bl b => some (b01 b)
  | _ => none
theorem addX : OpR X (binaryOp .Add) (fun x y H Q => ∃ i j, cnt x = some i ∧ y = .int j ∧ Q (.int (i + j)) H) := by
  intro pins s σ H x y v u Q J rx ry h
  obtain ⟨i, j, e, rfl, q⟩ := h
  obtain ⟨t, rfl⟩ := ry
  cases x with
  | int k =>
    cases e
    exact op_add pins s σ H (.int i) (.int j) v (.int j t) Q J rx (show RelV (.int j) (.int j t) from ⟨t, rfl⟩) ⟨_, _, rfl, rfl, q⟩
  | bl b =>
    cases e
    cases rx
    exact PySem.IntBool.add_bool_int ⟨.int _, H, J.tok _, ⟨_, rfl⟩, q⟩
  | _ => cases e
theorem subX : OpR X (binaryOp .Sub) (fun x y H Q => ∃ i j, x = .int i ∧ cnt y = some j ∧ Q (.int (i - j)) H) := by
  intro pins s σ H x y v u Q J rx ry h
  obtain ⟨i, j, rfl, e, q⟩ := h
  obtain ⟨t, rfl⟩ := rx
  cases y with
  | int k =>
    cases e
    exact op_sub pins s σ H (.int i) (.int j) (.int i t) u Q J (show RelV (.int i) (.int i t) from ⟨t, rfl⟩) ry ⟨_, _, rfl, rfl, q⟩
  | bl b =>
    cases e
    cases ry
    exact PySem.IntBool.sub_int_bool ⟨.int _, H, J.tok _, ⟨_, rfl⟩, q⟩
  | _ => cases e
/-- repr of data of any kind -/
def rReprX (K : PySem.W.Frag) : List V → Hp → VK → Prop := fun xs H Q => ∃ (x : V) (d : PyData), xs = [x] ∧ Dp K H x d ∧ d.showable = true ∧ d.hasDict = false ∧ d.depth ≤ 20 ∧ d.shown.length ≤ sizeLine ∧ Q (.str d.shown) H
theorem reprX (K : PySem.W.Frag) (units : X.A.units + 64 < cLine) (gd : X.A.guards = some []) (h : X.K = K := by rfl) : CallR X (.builtin "repr") (rReprX K) := by
  intro pins s σ H xs us Q J r hh
  obtain ⟨x, d, ex, hd, h1, h2, h3, h4, q⟩ := hh
  by_cases c : ∃ a, x = .ref a
  · exact reprK K units gd h pins s σ H xs us Q J r ⟨x, d, ex, hd, h1, h2, h3, h4, c, q⟩
  · subst ex
    obtain ⟨u, rfl, e⟩ := Vals.one r
    cases hd with
    | non =>
      cases e
      exact PySem.P.repr_of_none ⟨.str _, H, J.tok _, ⟨_, rfl⟩, q⟩
    | bl b =>
      cases e
      exact PySem.P.repr_of_bool ⟨.str _, H, J.tok _, ⟨_, rfl⟩, q⟩
    | int i =>
      obtain ⟨t, rfl⟩ := e
      exact PySem.P.repr_of_int (of_decide_eq_true h1) ⟨.str _, H, J.tok _, ⟨_, rfl⟩, q⟩
    | str z =>
      obtain ⟨t, rfl⟩ := e
      exact PySem.P.repr_of_str ⟨.str _, H, J.tok _, ⟨_, rfl⟩, q⟩ h4
    | _ => exact absurd ⟨_, rfl⟩ c
end
end Hz
set_option Elab.async false
set_option linter.all false
set_option maxRecDepth 100000
set_option maxHeartbeats 2000000
namespace Hz
open PySem PyProof.Rows
mutual
/-- no whole number in it beyond M -/
def iLe (M : Nat) : PyData → Bool
  | .int i => decide (i.natAbs ≤ M)
  | .list ds => iLeAll M ds
  | .tuple ds => iLeAll M ds
  | .none => true
  | .bool _ => true
  | .str _ => true
  | .dict _ => false
def iLeAll (M : Nat) : List PyData → Bool
  | [] => true
  | d :: ds => iLe M d && iLeAll M ds
end
mutual
theorem iLe_show {M : Nat} (hM : M < 10 ^ 20) : ∀ d : PyData, iLe M d = true → d.showable = true ∧ d.intsShort 21 = true
  | .int i, h => by
    have h' : i.natAbs < 10 ^ 20 := Nat.lt_of_le_of_lt (by simpa [iLe] using h) hM
    refine ⟨by simpa [PyData.showable] using int_log h', ?_⟩
    simp only [PyData.intsShort, decide_eq_true_eq]
    show (Str.ofString (toString i)).length ≤ 21
    rw [PySem.ofString_length]
    exact int_text_length_le10 (k := 20) (by decide) h'
  | .bool _, _ => by simp [PyData.showable, PyData.intsShort]
  | .none, _ => by simp [PyData.showable, PyData.intsShort]
  | .str _, _ => by simp [PyData.showable, PyData.intsShort]
  | .list ds, h => by
    obtain ⟨a, b⟩ := iLeAll_show hM ds (by simpa [iLe] using h)
    exact ⟨by simpa [PyData.showable] using a, by simpa [PyData.intsShort] using b⟩
  | .tuple ds, h => by
    obtain ⟨a, b⟩ := iLeAll_show hM ds (by simpa [iLe] using h)
    exact ⟨by simpa [PyData.showable] using a, by simpa [PyData.intsShort] using b⟩
  | .dict _, h => by simp [iLe] at h
theorem iLeAll_show {M : Nat} (hM : M < 10 ^ 20) : ∀ ds : List PyData, iLeAll M ds = true → PyData.showableAll ds = true ∧ PyData.intsShortAll 21 ds = true
  | [], _ => by simp [PyData.showableAll, PyData.intsShortAll]
  | d :: ds, h => by
    have h' : iLe M d = true ∧ iLeAll M ds = true := by simpa [iLeAll] using h
    obtain ⟨a, b⟩ := iLe_show hM d h'.1
    obtain ⟨c, e⟩ := iLeAll_show hM ds h'.2
    exact ⟨by simp [PyData.showableAll, a, c], by simp [PyData.intsShortAll, b, e]⟩
end
/-- data that repr shows and that == takes, whatever its shape: numbers of some size, so deep, so much in all -/
structure Tame (M W D : Nat) (d : PyData) : Prop where
  lay : d.canLay0 = true
  il : iLe M d = true
  dp : d.depth ≤ D
  bk : d.bulk ≤ W
/-- all but the sum -/
def Tame0 (M D : Nat) (d : PyData) : Prop := d.canLay0 = true ∧ iLe M d = true ∧ d.depth ≤ D
theorem Tame.zero {M W D : Nat} {d : PyData} (h : Tame M W D d) : Tame0 M D d := ⟨h.lay, h.il, h.dp⟩
def sumB (ds : List PyData) : Nat := (ds.map fun d => d.bulk + 1).sum
theorem sumB_cons (d : PyData) (ds : List PyData) : sumB (d :: ds) = d.bulk + 1 + sumB ds := by simp [sumB]
theorem sumB_append (a b : List PyData) : sumB (a ++ b) = sumB a + sumB b := by simp [sumB]
theorem sumB_reverse (a : List PyData) : sumB a.reverse = sumB a := by simp [sumB, List.sum_reverse]
theorem bulkAll_eq : ∀ ds : List PyData, PyData.bulkAll ds = sumB ds
  | [] => by simp [PyData.bulkAll, sumB]
  | d :: ds => by
    rw [sumB_cons, ← bulkAll_eq ds]
    simp only [PyData.bulkAll]
mutual
theorem iLe_up {M M' : Nat} (hM : M ≤ M') : ∀ d : PyData, iLe M d = true → iLe M' d = true
  | .int i, h => by
    have : i.natAbs ≤ M := by simpa [iLe] using h
    simpa [iLe] using Nat.le_trans this hM
  | .bool _, _ => by simp [iLe]
  | .none, _ => by simp [iLe]
  | .str _, _ => by simp [iLe]
  | .list ds, h => by simpa [iLe] using iLeAll_up hM ds (by simpa [iLe] using h)
  | .tuple ds, h => by simpa [iLe] using iLeAll_up hM ds (by simpa [iLe] using h)
  | .dict _, h => by simp [iLe] at h
theorem iLeAll_up {M M' : Nat} (hM : M ≤ M') : ∀ ds : List PyData, iLeAll M ds = true → iLeAll M' ds = true
  | [], _ => by simp [iLeAll]
  | d :: ds, h => by
    have h' : iLe M d = true ∧ iLeAll M ds = true := by simpa [iLeAll] using h
    simp [iLeAll, iLe_up hM d h'.1, iLeAll_up hM ds h'.2]
end
theorem Tame.mono {M M' W D W' D' : Nat} {d : PyData} (h : Tame M W D d) (c : M ≤ M') (a : W ≤ W') (b : D ≤ D') : Tame M' W' D' d := ⟨h.lay, iLe_up c d h.il, Nat.le_trans h.dp b, Nat.le_trans h.bk a⟩
theorem Tame0.mono {M M' D D' : Nat} {d : PyData} (h : Tame0 M D d) (c : M ≤ M') (b : D ≤ D') : Tame0 M' D' d := ⟨h.1, iLe_up c d h.2.1, Nat.le_trans h.2.2 b⟩
theorem tame_all {M D : Nat} : ∀ {ds : List PyData}, (∀ d ∈ ds, Tame0 M D d) → PyData.canLayAll0 ds = true ∧ iLeAll M ds = true ∧ PyData.depthAll ds ≤ D
  | [], _ => ⟨by simp [PyData.canLayAll0], by simp [iLeAll], by simp [PyData.depthAll]⟩
  | d :: ds, h => by
    obtain ⟨a1, a2, a4⟩ := h d (by simp)
    obtain ⟨b1, b2, b4⟩ := tame_all fun e he => h e (List.mem_cons_of_mem _ he)
    refine ⟨by simp [PyData.canLayAll0, a1, b1], by simp [iLeAll, a2, b2], ?_⟩
    simp only [PyData.depthAll]
    omega
theorem tame_none {M : Nat} : ∀ {D : Nat} {ds : List PyData}, PyData.canLayAll0 ds = true → iLeAll M ds = true → PyData.depthAll ds ≤ D → ∀ d ∈ ds, Tame0 M D d
  | D, d :: ds, h1, h2, h4, e, he => by
    simp only [PyData.canLayAll0, iLeAll, PyData.depthAll, Bool.and_eq_true] at h1 h2 h4
    rcases List.mem_cons.mp he with rfl | he
    · exact ⟨h1.1, h2.1, by omega⟩
    · exact tame_none h1.2 h2.2 (by omega) e he
theorem tame_seq {t : Bool} {M W D : Nat} {ds : List PyData} (h : ∀ d ∈ ds, Tame0 M D d) (hb : sumB ds ≤ W) : Tame M W (D + 1) (sq t ds) := by
  obtain ⟨a, b, d⟩ := tame_all h
  rw [← bulkAll_eq] at hb
  cases t
  · exact ⟨by show PyData.canLay0 (.list ds) = true; simpa [PyData.canLay0] using a, by show iLe M (.list ds) = true; simpa [iLe] using b, by show PyData.depth (.list ds) ≤ _; simp only [PyData.depth]; omega, by show PyData.bulk (.list ds) ≤ _; simp only [PyData.bulk]; exact hb⟩
  · exact ⟨by show PyData.canLay0 (.tuple ds) = true; simpa [PyData.canLay0] using a, by show iLe M (.tuple ds) = true; simpa [iLe] using b, by show PyData.depth (.tuple ds) ≤ _; simp only [PyData.depth]; omega, by show PyData.bulk (.tuple ds) ≤ _; simp only [PyData.bulk]; exact hb⟩
theorem tame_parts {t : Bool} {M W D : Nat} {ds : List PyData} (h : Tame M W (D + 1) (sq t ds)) : (∀ d ∈ ds, Tame0 M D d) ∧ sumB ds ≤ W := by
  obtain ⟨a, b, d, e⟩ := h
  rw [← bulkAll_eq]
  cases t
  · change PyData.canLay0 (.list ds) = true at a
    change iLe M (.list ds) = true at b
    change PyData.depth (.list ds) ≤ _ at d
    change PyData.bulk (.list ds) ≤ _ at e
    simp only [PyData.canLay0, iLe, PyData.depth, PyData.bulk] at a b d e
    exact ⟨tame_none a b (by omega), e⟩
  · change PyData.canLay0 (.tuple ds) = true at a
    change iLe M (.tuple ds) = true at b
    change PyData.depth (.tuple ds) ≤ _ at d
    change PyData.bulk (.tuple ds) ≤ _ at e
    simp only [PyData.canLay0, iLe, PyData.depth, PyData.bulk] at a b d e
    exact ⟨tame_none a b (by omega), e⟩
theorem Tame.shaped {M W D : Nat} {d : PyData} (h : Tame M W D d) (hD : D ≤ 20) : SeqAt.shaped d = true := by
  unfold SeqAt.shaped
  rw [h.lay, decide_eq_true (by have := h.dp; omega)]
  rfl
theorem Tame.repr {K : PySem.W.Frag} {M W D : Nat} {d : PyData} {x : L2.V} {H : L2.Hp} {Q : L2.VK} (h : Tame M W D d) (hM : M < 10 ^ 20) (hW : W ≤ 100000) (hD : D ≤ 20) (hd : L2.Dp K H x d) (q : Q (.str d.shown) H) : rReprX K [x] H Q := by
  obtain ⟨h1, h2⟩ := iLe_show hM d h.il
  refine ⟨x, d, rfl, hd, h1, PyData.hasDict_of_canLay d h.lay, by have := h.dp; omega, ?_, q⟩
  have := PyData.shown_le_bulk 21 (by decide) d (PyData.leavesShort_of_canLay0 21 d h.lay h2)
  have e : sizeLine = 16777216 := by decide
  have := h.bk
  omega
theorem sumB_len (ds : List PyData) : ds.length ≤ sumB ds := by
  induction ds with
  | nil => simp
  | cons d ds ih =>
    rw [List.length_cons, sumB_cons]
    omega
theorem Tame.dpt : ∀ {D M W : Nat} {d : PyData}, Tame M W D d → W ≤ 1000 → Hz.dpt D d
  | 0, M, W, d, h, hW => by
    cases d with
    | list ds => have := h.dp; simp [PyData.depth] at this
    | tuple ds => have := h.dp; simp [PyData.depth] at this
    | dict _ => have := h.il; simp [iLe] at this
    | _ => trivial
  | D + 1, M, W, d, h, hW => by
    have key : ∀ (t : Bool) (ds : List PyData), Tame M W (D + 1) (sq t ds) → ds.length ≤ 1000 ∧ ∀ e ∈ ds, Hz.dpt D e := fun t ds h => by
      obtain ⟨a, b⟩ := tame_parts h
      refine ⟨by have := sumB_len ds; omega, fun e he => ?_⟩
      obtain ⟨x, y, z⟩ := a e he
      obtain ⟨p, q, rfl⟩ := List.append_of_mem he
      rw [sumB_append, sumB_cons] at b
      exact Tame.dpt (W := W) ⟨x, y, z, by omega⟩ hW
    cases d with
    | list ds => exact key false ds h
    | tuple ds => exact key true ds h
    | dict _ => have := h.il; simp [iLe] at this
    | _ => trivial
end Hz
set_option Elab.async false
set_option linter.all false
namespace Hz
namespace Hill
theorem dayOf_mono {h : Hill} {t t' : Int} {m m' : Nat} (x : h.DayOf t m) (y : h.DayOf t' m') (l : t ≤ t') : m ≤ m' := by
  refine Nat.not_lt.mp fun c => ?_
  have := x.2.2 m' c y.1
  have := y.2.1
  omega
/-- by as many years as are wanted -/
theorem Lost.far {h : Hill} (hL : 0 < h.L) (hN : h.Nn) {y z : Int} (x : h.Lost y z) : ∃ k0 : Int, ∀ k : Int, k0 ≤ k → ∃ m, 1 ≤ y + k * h.drops ∧ h.DayOf (y + k * h.drops) m ∧ z = max 0 (h.given m - h.most - (y + k * h.drops)) := by
  obtain ⟨k0, m0, p, d, e⟩ := x
  refine ⟨k0, fun k hk => ?_⟩
  obtain ⟨j, hj⟩ := Int.eq_ofNat_of_zero_le (show 0 ≤ k - k0 by omega)
  have d' := dayOf_year hL hN d p j
  have hdn : 0 ≤ h.drops := by
    have := ge_mono hN hL (Nat.zero_le h.L)
    have e := ge_year hL 0 1 (h := h)
    rw [Nat.one_mul, Nat.zero_add, ge_zero] at e
    rw [ge_zero] at this
    omega
  have e2 : y + k0 * h.drops + j * h.drops = y + k * h.drops := by
    have : k = k0 + j := by omega
    rw [this, Int.add_mul]; omega
  have j0 : 0 ≤ (j : Int) * h.drops := Int.mul_nonneg (by omega) hdn
  rw [e2] at d'
  refine ⟨_, by omega, d', ?_⟩
  rw [given_year hL, ← e2, e]
  congr 1
  omega
/-- lines keep their order -/
theorem lost_mono {h : Hill} (hL : 0 < h.L) (hN : h.Nn) {x y a b : Int} (p : h.Lost x a) (q : h.Lost y b) (l : x ≤ y) : x + a ≤ y + b := by
  obtain ⟨k1, f1⟩ := p.far hL hN
  obtain ⟨k2, f2⟩ := q.far hL hN
  obtain ⟨m, _, d, ea⟩ := f1 (max k1 k2) (by omega)
  obtain ⟨m', _, d', eb⟩ := f2 (max k1 k2) (by omega)
  have := given_mono hN hL (dayOf_mono d d' (by omega))
  omega
theorem lost_lt {h : Hill} (hL : 0 < h.L) (hN : h.Nn) (hd : 0 < h.drops) (hm : 0 ≤ h.most) {x a : Int} (p : h.Lost x a) : a < h.drops := by
  obtain ⟨k, m, p1, d, rfl⟩ := p
  have d' := dayOf_year hL hN d p1 1
  have hlt : m < m + 1 * h.L := by omega
  have := d'.2.2 m hlt d.1
  have e : ((1 : Nat) : Int) * h.drops = h.drops := Int.one_mul _
  omega
noncomputable def lostZ (h : Hill) (y : Int) : Int := Classical.epsilon fun z => h.Lost y z
theorem Lost.z {h : Hill} (hL : 0 < h.L) (hN : h.Nn) {y z : Int} (p : h.Lost y z) : z = h.lostZ y := lost_uniq hL hN p (Classical.epsilon_spec (p := fun z => h.Lost y z) ⟨z, p⟩)
theorem lostZ_spec {h : Hill} (hL : 0 < h.L) (hN : h.Nn) (ho : ∃ d, d ∈ h.year ∧ d.2 = true) (hd : 0 < h.drops) (y : Int) : h.Lost y (h.lostZ y) := Classical.epsilon_spec (p := fun z => h.Lost y z) (lost_ex hL hN ho hd y)
/-- the line behind a turn -/
noncomputable def ledZ (h : Hill) (i : Nat) (x : Int) : Int := x + h.need i + h.lostZ (x + h.need i)
end Hill
end Hz
set_option Elab.async false
set_option linter.all false
namespace Hz
namespace Hill
/-- the begins of the stretches, rising -/
structure Lows (h : Hill) (l : List Int) : Prop where
  up : l.Pairwise (· < ·)
  mem : ∀ x, x ∈ l ↔ (0 ≤ x ∧ x < h.drops ∧ 0 < h.lostZ x ∧ ∃ d, h.isOpen d = true ∧ x = (h.given d + 1) % h.drops)
theorem rising_uniq : ∀ {l l' : List Int}, l.Pairwise (· < ·) → l'.Pairwise (· < ·) → (∀ x, x ∈ l ↔ x ∈ l') → l = l'
  | [], [], _, _, _ => rfl
  | [], a :: l', _, _, e => absurd ((e a).mpr (by simp)) (by simp)
  | a :: l, [], _, _, e => absurd ((e a).mp (by simp)) (by simp)
  | a :: l, b :: l', p, q, e => by
    obtain ⟨p1, p2⟩ := List.pairwise_cons.mp p
    obtain ⟨q1, q2⟩ := List.pairwise_cons.mp q
    have ab : a = b := by
      rcases List.mem_cons.mp ((e a).mp (by simp)) with h | h
      · exact h
      · rcases List.mem_cons.mp ((e b).mpr (by simp)) with h' | h'
        · exact h'.symm
        · have := q1 a h
          have := p1 b h'
          omega
    subst ab
    congr 1
    refine rising_uniq p2 q2 fun x => ⟨fun hx => ?_, fun hx => ?_⟩
    · rcases List.mem_cons.mp ((e x).mp (List.mem_cons_of_mem _ hx)) with h | h
      · have := p1 x hx; omega
      · exact h
    · rcases List.mem_cons.mp ((e x).mpr (List.mem_cons_of_mem _ hx)) with h | h
      · have := q1 x hx; omega
      · exact h
theorem Lows.uniq {h : Hill} {l l' : List Int} (a : h.Lows l) (b : h.Lows l') : l = l' := rising_uniq a.up b.up fun x => (a.mem x).trans (b.mem x).symm
section
variable {h : Hill} (hL : 0 < h.L) (hN : h.Nn) (ho : ∃ d, d ∈ h.year ∧ d.2 = true) (hd : 0 < h.drops)
include hL hN ho hd
theorem lostZ_year (y k : Int) : h.lostZ (y + k * h.drops) = h.lostZ y := ((lostZ_spec hL hN ho hd y).year k |>.z hL hN).symm
theorem lostZ_mod (y : Int) : h.lostZ (y % h.drops) = h.lostZ y := by
  have e := Int.mul_ediv_add_emod y h.drops
  have := lostZ_year hL hN ho hd (y % h.drops) (y / h.drops)
  rw [show y % h.drops + y / h.drops * h.drops = y by rw [Int.mul_comm]; omega] at this
  exact this.symm
/-- a number at which something is lost: just behind an open evening, or by that so much less -/
theorem lost_low {y : Int} (y1 : 1 ≤ y) (p : 0 < h.lostZ y) : ∃ (d : Nat) (k : Int), h.isOpen d = true ∧ h.given d + 1 - k * h.drops ≤ y ∧ h.lostZ y = h.lostZ (h.given d + 1) - (y - (h.given d + 1 - k * h.drops)) := by
  -- a year on, that an open evening stand ahead
  have sp := lostZ_spec hL hN ho hd y
  have e1 := (lostZ_year hL hN ho hd y 1)
  rw [Int.one_mul] at e1
  obtain ⟨m, hm⟩ := dayOf_ex hN hL ho hd (y + h.drops)
  have lm := lost_of (show 1 ≤ y + h.drops by omega) hm
  have ez := lm.z hL hN
  rw [e1] at ez
  -- the last open day ahead of m
  obtain ⟨j0, hj0, hj1⟩ := openFrom_ex hL ho 0
  have ja : h.given j0 < y + h.drops := by
    have := given_mono hN hL (show j0 ≤ h.L - 1 by omega)
    have e := ge_year hL 0 1 (h := h)
    rw [Nat.one_mul, Nat.zero_add, ge_zero] at e
    have e2 : h.given (h.L - 1) = h.ge h.L := by unfold given; congr 1; omega
    have e3 : ((1 : Nat) : Int) * h.drops = h.drops := Int.one_mul _
    omega
  have jm : j0 < m := by
    refine Nat.not_le.mp fun c => ?_
    have := given_mono hN hL c
    have := hm.2.1
    omega
  obtain ⟨d, d1, d2, d3⟩ : ∃ d, d < m ∧ h.isOpen d = true ∧ ∀ k, d < k → k < m → h.isOpen k = false := by
    have : ∀ n, n ≤ m → (∃ k, k < n ∧ h.isOpen k = true) → ∃ d, d < n ∧ h.isOpen d = true ∧ ∀ k, d < k → k < n → h.isOpen k = false := by
      intro n
      induction n with
      | zero => rintro _ ⟨k, hk, _⟩; omega
      | succ n ih =>
        rintro hn ⟨k, hk, ok⟩
        cases c : h.isOpen n with
        | true => exact ⟨n, by omega, c, fun j h1 h2 => by omega⟩
        | false =>
          have kn : k < n := by
            rcases Nat.lt_or_eq_of_le (Nat.lt_succ_iff.mp hk) with z | z
            · exact z
            · rw [z, c] at ok; cases ok
          obtain ⟨d, a, b, e⟩ := ih (by omega) ⟨k, kn, ok⟩
          refine ⟨d, by omega, b, fun j h1 h2 => ?_⟩
          by_cases z : j = n
          · rw [z]; exact c
          · exact e j h1 (by omega)
    exact this m (Nat.le_refl _) ⟨j0, jm, hj0.2.1⟩
  have gd := hm.2.2 d d1 d2
  have g0 : 0 ≤ h.given d := by
    have := ge_mono hN hL (Nat.zero_le (d + 1))
    rw [ge_zero] at this
    exact this
  have hm2 : h.DayOf (h.given d + 1) m := ⟨hm.1, by have := hm.2.1; omega, fun k hk ok => by
    rcases Nat.lt_or_ge d k with c | c
    · rw [d3 k c hk] at ok; cases ok
    · have := given_mono hN hL c; omega⟩
  have l2 := (lost_of (show 1 ≤ h.given d + 1 by omega) hm2).z hL hN
  refine ⟨d, 1, d2, by omega, ?_⟩
  rw [Int.one_mul]
  omega
variable (hm0 : 0 ≤ h.most)
include hm0
/-- behind an open evening: as much less as it's further -/
theorem lost_in {d : Nat} {f : Int} (od : h.isOpen d = true) (f0 : 0 ≤ f) (f1 : f < h.lostZ (h.given d + 1)) : h.lostZ (h.given d + 1 + f) = h.lostZ (h.given d + 1) - f := by
  have g0 : 0 ≤ h.given d := by
    have := ge_mono hN hL (Nat.zero_le (d + 1))
    rw [ge_zero] at this
    exact this
  obtain ⟨m, hm⟩ := dayOf_ex hN hL ho hd (h.given d + 1)
  have l1 := (lost_of (show 1 ≤ h.given d + 1 by omega) hm).z hL hN
  have hm2 : h.DayOf (h.given d + 1 + f) m := ⟨hm.1, by omega, fun k hk ok => by have := hm.2.2 k hk ok; omega⟩
  have l2 := (lost_of (show 1 ≤ h.given d + 1 + f by omega) hm2).z hL hN
  omega
/-- by a stretch: how far in, how much is lost -/
theorem Lows.within {l : List Int} (o : h.Lows l) {x y : Int} (hx : x ∈ l) (f : (y - x) % h.drops ≤ h.lostZ x - 1) : h.lostZ y = h.lostZ x - (y - x) % h.drops := by
  obtain ⟨x0, x1, x2, d, od, rfl⟩ := (o.mem x).mp hx
  have e0 := Int.emod_nonneg (y - (h.given d + 1) % h.drops) (show h.drops ≠ 0 by omega)
  have e := Int.mul_ediv_add_emod (y - (h.given d + 1) % h.drops) h.drops
  have e2 := Int.mul_ediv_add_emod (h.given d + 1) h.drops
  rw [Int.mul_comm] at e e2
  rw [lostZ_mod hL hN ho hd] at f ⊢
  have hin := lost_in hL hN ho hd hm0 od e0 (by omega)
  rw [← hin]
  have : y = h.given d + 1 + (y - (h.given d + 1) % h.drops) % h.drops + ((y - (h.given d + 1) % h.drops) / h.drops - (h.given d + 1) / h.drops) * h.drops := by
    rw [Int.sub_mul]; omega
  conv => lhs; rw [this]
  rw [lostZ_year hL hN ho hd]
/-- out of all stretches nothing is lost -/
theorem Lows.without {l : List Int} (o : h.Lows l) {y : Int} (no : ∀ x ∈ l, ¬ (y - x) % h.drops ≤ h.lostZ x - 1) : h.lostZ y = 0 := by
  have n0 := (lostZ_spec hL hN ho hd y).nn
  refine Int.le_antisymm (Int.not_lt.mp fun p => ?_) n0
  -- above nought
  have e := Int.mul_ediv_add_emod y h.drops
  have e0 := Int.emod_nonneg y (show h.drops ≠ 0 by omega)
  have ey := lostZ_year hL hN ho hd y (1 - y / h.drops)
  have en : y + (1 - y / h.drops) * h.drops = y % h.drops + h.drops := by
    rw [Int.sub_mul, Int.one_mul, Int.mul_comm (y / h.drops)]; omega
  rw [en] at ey
  obtain ⟨d, k, od, le, el⟩ := lost_low hL hN ho hd (show 1 ≤ y % h.drops + h.drops by omega) (by rw [ey]; exact p)
  have ll := lost_lt hL hN hd hm0 (lostZ_spec hL hN ho hd (h.given d + 1))
  have m0 := Int.emod_nonneg (h.given d + 1) (show h.drops ≠ 0 by omega)
  have m1 := Int.emod_lt_of_pos (h.given d + 1) hd
  have em := Int.mul_ediv_add_emod (h.given d + 1) h.drops
  refine no ((h.given d + 1) % h.drops) ((o.mem _).mpr ⟨m0, m1, by rw [lostZ_mod hL hN ho hd]; omega, d, od, rfl⟩) ?_
  rw [lostZ_mod hL hN ho hd]
  -- how far in
  have far : (y - (h.given d + 1) % h.drops) % h.drops = y % h.drops + h.drops - (h.given d + 1 - k * h.drops) := by
    have : y - (h.given d + 1) % h.drops = (y % h.drops + h.drops - (h.given d + 1 - k * h.drops)) + (y / h.drops - 1 - k + (h.given d + 1) / h.drops) * h.drops := by
      rw [Int.mul_comm] at e em
      rw [Int.add_mul, Int.sub_mul, Int.sub_mul, Int.one_mul]
      omega
    rw [this, Int.add_mul_emod_self_right]
    exact Int.emod_eq_of_lt (by omega) (by omega)
  rw [far]
  omega
end
end Hill
end Hz
set_option Elab.async false
set_option linter.all false
set_option maxRecDepth 100000
set_option maxHeartbeats 8000000
namespace Z64
open PySem PySem.Spec PyProof.Rows L2 Hz
section
variable {P : Program} {w : World} {K : PySem.W.Frag} {mg : Str → Option Value} {base : Heap}
local macro_rules | `(tactic| walk_at "un") => `(tactic| try dsimp only [tSeq, tIfS, tRet, tAsg, tDrop, tOr, tAnd, tNot, tAndV, tOrV, tNotV, tTest, tB, tOp, tUn, tCB, tCons, tNil, tC, tNext, tIf, tChain, gName, tPar, tPar3, tTup, tLst])
/-- a stretch, by its begin -/
noncomputable def stI (h : Hill) (x : Int) : List Int := [x, x + h.lostZ x - 1]
noncomputable def stD (h : Hill) (x : Int) : PyData := sq true [.int x, .int (x + h.lostZ x - 1)]
/-- the begins that the first days tell -/
noncomputable def begins (h : Hill) (n : Nat) : List Int := (List.range n).filterMap fun d => if h.isOpen d = true ∧ 0 < h.lostZ (h.given d + 1) then some ((h.given d + 1) % h.drops) else none
theorem begins_succ (h : Hill) (n : Nat) : begins h (n + 1) = begins h n ++ (if h.isOpen n = true ∧ 0 < h.lostZ (h.given n + 1) then [(h.given n + 1) % h.drops] else []) := by
  unfold begins
  rw [List.range_succ, List.filterMap_append]
  congr 1
  by_cases c : h.isOpen n = true ∧ 0 < h.lostZ (h.given n + 1)
  · simp [c]
  · rw [if_neg c, List.filterMap_cons, if_neg c, List.filterMap_nil]
theorem begins_mem {h : Hill} (hk : HillOk h) (x : Int) : x ∈ begins h h.L ↔ (0 ≤ x ∧ x < h.drops ∧ 0 < h.lostZ x ∧ ∃ d, h.isOpen d = true ∧ x = (h.given d + 1) % h.drops) := by
  have hd := hk.dr
  have e0 : ∀ y : Int, 0 ≤ y % h.drops := fun y => Int.emod_nonneg _ (by omega)
  have e1 : ∀ y : Int, y % h.drops < h.drops := fun y => Int.emod_lt_of_pos _ hd
  have em : ∀ y : Int, h.lostZ (y % h.drops) = h.lostZ y := Hill.lostZ_mod hk.L0 hk.nn hk.op hd
  unfold begins
  rw [List.mem_filterMap]
  constructor
  · rintro ⟨d, hdm, e⟩
    by_cases c : h.isOpen d = true ∧ 0 < h.lostZ (h.given d + 1)
    · rw [if_pos c] at e
      obtain rfl := Option.some.inj e
      exact ⟨e0 _, e1 _, by rw [em]; exact c.2, d, c.1, rfl⟩
    · rw [if_neg c] at e; cases e
  · rintro ⟨_, _, p, d, od, rfl⟩
    rw [em] at p
    have hm := Nat.mod_lt d hk.L0
    have ed : d = d % h.L + d / h.L * h.L := by rw [Nat.mul_comm]; exact (Nat.mod_add_div d h.L).symm
    have eo : h.isOpen (d % h.L) = true := by rw [ed, Hill.isOpen_year] at od; exact od
    have eg : h.given d + 1 = h.given (d % h.L) + 1 + ((d / h.L : Nat) : Int) * h.drops := by
      conv => lhs; rw [ed, Hill.given_year hk.L0]
      omega
    refine ⟨d % h.L, List.mem_range.mpr hm, ?_⟩
    have ep : 0 < h.lostZ (h.given (d % h.L) + 1) := by rw [eg, Hill.lostZ_year hk.L0 hk.nn hk.op hd] at p; exact p
    rw [if_pos ⟨eo, ep⟩, eg, Int.add_mul_emod_self_right]
theorem day_i {t : Bool} {h : Hill} {i : Nat} (hi : i < h.L) : (h.year.map fun d => sq t [.int d.1, .bool d.2])[i]? = some (sq t [.int (h.drop i), .bool (h.isOpen i)]) := by
  obtain ⟨d, hd, e1, e2⟩ := Hill.at_day (h := h) (by omega) i
  rw [Nat.mod_eq_of_lt hi] at hd
  rw [List.getElem?_map, hd, e1, e2]; rfl
def spStr (K : PySem.W.Frag) : Sp := fun vs H Q _ => ∃ (t : Bool) (h : Hill) (v : V), vs = [v] ∧ Dp K H v (h.dat t) ∧ HillOk h ∧
  ∀ (l : List Int) (us : List V) p H', h.Lows l → H p = none → H' p = some (.lst us) → (∀ B : List Addr, (∀ b ∈ B, H b ≠ none) → DpAll K (wo (p :: B) H') us (l.map (stD h))) → Ex [] H H' → Q (.ref p) H'
theorem ok_stretches (T : Txt K mg) : FnOk P w K mg base CX0 4 T.a_stretches T.d_stretches P_stretches (spStr K) := by
  have nd := sc_stretches.nd
  have G_year_drops := ok_year_drops (P := P) (w := w) (base := base) T
  have G_given_by := ok_given_by (P := P) (w := w) (base := base) T
  have G_given_next := ok_given_next (P := P) (w := w) (base := base) T
  refine T.F_stretches.ok sc_stretches (fun vs H Q E h => ?_) (fun cdv A outer s H vs Q E hr h => ?_)
  · obtain ⟨t, h, v, rfl, _⟩ := h
    rfl
  · obtain ⟨t, h, v, rfl, hD, hk, q⟩ := h
    have hr_year_drops := hr.mono (show 1 ≤ 3 by decide)
    have hr_given_by := hr.mono (show 2 ≤ 3 by decide)
    have hr_given_next := hr
    have hL0 := hk.L0
    have hd := hk.dr
    have hdm := hk.dm
    have hL2 : h.L ≤ 20 := hk.y2
    have hm0 := hk.m0
    refine ⟨_, (pss_cons (ps_par3 (i := 1) (j := 2) (l := 3) (by rfl) nd rfl rfl rfl (by decide) (by decide) (by decide) rfl rfl rfl (pa_cons (pe_ix (ixK K) (pv 0) pe_int (fun _ _ => rfl)) (pa_cons (pe_ix (ixK K) (pv 0) pe_int (fun _ _ => rfl)) (pa_cons (pe_call G_year_drops hr_year_drops (by rfl) T.m_year_drops T.k_year_drops T.b_year_drops .nil pass0 (pa_cons (pv 0) pa_nil)) pa_nil))) (by rfl))
      (pss_cons (ps_set (i := 4) nd rfl (Or.inl rfl) (pe_lst pa_nil))
      (pss_cons (ps_for PassesOwn.never rfl (pi_range1 (by rfl) T.z_range (pa_cons (pe_callB (lenK K) (by rfl) T.z_len (by decide +kernel) (pa_cons (pv 1) pa_nil)) pa_nil)) (pg_name (i := 5) nd rfl (Or.inl rfl)) (pss_one (ps_if (pt_val (pe_ix (ixK K) (pe_ix (ixK K) (pv 1) (pv 5) (fun _ _ => rfl)) pe_int (fun _ _ => rfl))) (pss_cons (ps_set (i := 6) nd rfl (Or.inl rfl) (pe_op op_add (pe_call G_given_by hr_given_by (by rfl) T.m_given_by T.k_given_by T.b_given_by .nil pass0 (pa_cons (pv 0) (pa_cons (pv 5) pa_nil))) pe_int))
      (pss_cons (ps_set (i := 7) nd rfl (Or.inl rfl) (pe_op op_sub (pe_op op_sub (pe_op op_sub (pe_call G_given_next hr_given_next (by rfl) T.m_given_next T.k_given_next T.b_given_next .nil pass0 (pa_cons (pv 0) (pa_cons (pv 6) pa_nil))) pe_int) (pv 2)) (pv 6)))
      (pss_one (ps_if (pt_cmpR op_ge (pv 7) pe_int (nomark _)) (pss_one (ps_expr (pe_bm PySem.F.plainAttrs_list PySem.F.slot_list_append PySem.F.type_list_append mt_append (pv 4) (pa_cons (pe_tup (pa_cons (pe_op op_mod (pv 6) (pv 3)) (pa_cons (pe_op op_add (pe_op op_mod (pv 6) (pv 3)) (pv 7)) pa_nil))) pa_nil)))) pss_nil)))) pss_nil)))
      (pss_one (ps_ret (pe_callB (cr_sortedT rfl) (by rfl) T.z_sorted (by decide +kernel) (pa_cons (pe_callTy (cr_setOfT rfl hr.units) (by rfl) T.z_set (by decide +kernel) (pa_cons (pv 4) pa_nil)) pa_nil))))))), ?_⟩
    have dv : ∀ {G : Hp}, Ex [] H G → Dp K G v (h.dat t) := fun x => dp_le x.le0 _ _ hD
    walk_at "un"
    refine ⟨_, rfl, z_ixD hD (Le.refl _) (j := 0) rfl rfl fun yv hy => ?_⟩
    have hy0 := hy
    obtain ⟨ya, ys, rfl, hyS, hyA⟩ := dp_sq hy
    have hL : ys.length = h.L := by have := dpa_len hyA; rw [List.length_map] at this; exact this
    refine ⟨_, rfl, z_ixD hD (Le.refl _) (j := 2) rfl rfl fun mv hm => ?_⟩
    obtain rfl := dp_int hm
    refine ⟨_, rfl, t, h, v, rfl, hD, hk, fun H1 x1 => ⟨_, _, _, rfl, ?_⟩⟩
    walk_at "un"
    refine ⟨Nat.zero_le _, fun L hL1 => ?_⟩
    have x2 := x1.trans (Ex.new (B := []) (o := .lst []) hL1)
    have L0 : H L = none := x1.free hL1
    walk_at "un"
    refine ⟨_, rfl, ya, ys, rfl, (le_x x2.le0 hyS).sq, _, rfl, by omega, by omega, ?_⟩
    rw [hL]
    refine for_range (lo := 0) (n := h.L) (fun i σ H' => ∃ (ks : List (Addr × List Int)) (u5 u6 u7 : Option V), σ = [some v, some (.ref ya), some (.int h.most), some (.int h.drops), some (.ref L), u5, u6, u7] ∧ H' L = some (.lst (ks.map fun p => V.ref p.1)) ∧ ks.map (·.2) = (begins h i).map (stI h) ∧ ks.length ≤ i ∧ (∀ p ∈ ks, H p.1 = none ∧ H' p.1 = some (.tup (p.2.map V.int))) ∧ Ex [] H H')
      ⟨[], _, _, _, rfl, upd_same, rfl, Nat.zero_le _, by simp, x2⟩ (fun i σ H' hi hP => ?_) (fun σ H' hP => ?_)
    · obtain ⟨ks, u5, u6, u7, rfl, hHL, hks, lks, hat, x3⟩ := hP
      have ei : (0 : Int) + (i : Int) = i := Int.zero_add _
      walk_at "un"
      have next : ∀ G : Hp, Ex [] H' G → ¬ (h.isOpen i = true ∧ 0 < h.lostZ (h.given i + 1)) → ∀ (w5 w6 w7 : Option V), ∃ (ks : List (Addr × List Int)) (u5 u6 u7 : Option V), [some v, some (.ref ya), some (.int h.most), some (.int h.drops), some (.ref L), w5, w6, w7] = [some v, some (.ref ya), some (.int h.most), some (.int h.drops), some (.ref L), u5, u6, u7] ∧ G L = some (.lst (ks.map fun p => V.ref p.1)) ∧ ks.map (·.2) = (begins h (i + 1)).map (stI h) ∧ ks.length ≤ i + 1 ∧ (∀ p ∈ ks, H p.1 = none ∧ G p.1 = some (.tup (p.2.map V.int))) ∧ Ex [] H G := fun G x c w5 w6 w7 =>
        ⟨ks, w5, w6, w7, rfl, x.1 _ _ (by simp) hHL, by rw [begins_succ, if_neg c, List.append_nil]; exact hks, by omega, fun p hp => ⟨(hat p hp).1, x.1 _ _ (by simp) (hat p hp).2⟩, x3.trans x⟩
      refine ⟨_, rfl, _, rfl, z_ixD (dp_le x3.le0 _ _ hy0) (Le.refl _) (j := i) ei (day_i hi) fun dv' hdv => z_ixD hdv (Le.refl _) (j := 1) rfl rfl fun bv hbv => ?_⟩
      obtain rfl := dp_bl hbv
      refine ⟨_, rfl, ?_⟩
      cases co : h.isOpen i with
      | false => exact iteF (next H' (Ex.refl _ _) (by rw [co]; simp) _ _ _)
      | true =>
      refine iteT ⟨_, rfl, _, rfl, t, h, v, i, by rw [ei]; rfl, dv x3, hk, fun r H4 er x4 => ?_⟩
      subst er
      refine ⟨_, _, rfl, rfl, ?_⟩
      walk_at "un"
      have g0 : 0 ≤ h.given i := by
        have := Hill.ge_mono hk.nn hL0 (Nat.zero_le (i + 1))
        rw [Hill.ge_zero] at this
        exact this
      obtain ⟨g, hg⟩ := Int.eq_ofNat_of_zero_le g0
      have eg : h.given i + 1 = ((g + 1 : Nat) : Int) := by omega
      refine ⟨_, rfl, _, rfl, t, h, v, g + 1, by rw [eg]; rfl, dv (x3.trans x4), hk, by omega, fun m H5 hm x5 => ?_⟩
      rw [← eg] at hm
      have x45 := x4.trans x5
      have lo := (Hill.lost_of (show 1 ≤ h.given i + 1 by omega) hm).z hL0 hk.nn
      have sp := Hill.lostZ_mod hL0 hk.nn hk.op hd (h.given i + 1)
      refine ⟨_, _, rfl, rfl, _, rfl, _, _, rfl, rfl, _, rfl, _, _, rfl, rfl, ?_⟩
      walk_at "un"
      refine ⟨_, rfl, _, _, rfl, rfl, _, rfl, ite2 (fun c => ?_) (fun c => ?_)⟩
      · have c' : 0 ≤ h.given m - 1 - h.most - (h.given i + 1) := of_decide_eq_true c
        have pos : h.isOpen i = true ∧ 0 < h.lostZ (h.given i + 1) := ⟨co, by omega⟩
        refine ⟨_, rfl, .inl ⟨rfl, _, SqL.of (x45.1 _ _ (by simp) hHL)⟩, _, rfl, _, rfl, _, _, rfl, rfl, hd, _, rfl, _, rfl, _, _, rfl, rfl, hd, _, rfl, _, _, rfl, rfl, (by show 2 ≤ sizeLine; decide), fun p hp => ?_⟩
        have y6 := Ex.new (B := []) (o := .tup [.int ((h.given i + 1) % h.drops), .int ((h.given i + 1) % h.drops + (h.given m - 1 - h.most - (h.given i + 1)))]) hp
        have x46 := x45.trans y6
        have np : p ≠ L := fun z => by rw [z, x45.1 _ _ (by simp) hHL] at hp; cases hp
        have p0 : H p = none := (x3.trans x45).free hp
        refine ⟨L, _, _, rfl, rfl, x46.1 _ _ (by simp) hHL, by rw [List.length_map]; exact sz_lt (by omega), ?_⟩
        have es : stI h ((h.given i + 1) % h.drops) = [(h.given i + 1) % h.drops, (h.given i + 1) % h.drops + (h.given m - 1 - h.most - (h.given i + 1))] := by
          unfold stI
          rw [sp]
          congr 2
          omega
        refine ⟨ks ++ [(p, stI h ((h.given i + 1) % h.drops))], _, _, _, rfl, by rw [upd_same, List.map_append]; rfl, ?_, by rw [List.length_append]; show ks.length + 1 ≤ i + 1; omega, fun q hq => ?_, (x3.trans x46).mutNew' L0⟩
        · rw [List.map_append, hks, begins_succ, if_pos pos, List.map_append]; rfl
        · rcases List.mem_append.mp hq with hq | hq
          · obtain ⟨a1, a2⟩ := hat q hq
            have nq : q.1 ≠ L := fun z => by
              rw [z, hHL] at a2; cases a2
            exact ⟨a1, by rw [upd_ne nq]; exact x46.1 _ _ (by simp) a2⟩
          · rw [List.mem_singleton.mp hq]
            refine ⟨p0, ?_⟩
            rw [upd_ne np, upd_same, es]; rfl
      · have c' : ¬ 0 ≤ h.given m - 1 - h.most - (h.given i + 1) := of_decide_eq_false (Bool.eq_false_iff.mpr c)
        exact next H5 x45 (fun z => by have := z.2; omega) _ _ _
    · obtain ⟨ks, u5, u6, u7, rfl, hHL, hks, lks, hat, x3⟩ := hP
      walk_at "un"
      have b64 : (100000000000000000000 : Int) = 10 ^ 20 := by decide
      have fresh : ∀ p ∈ ks, SqT K H' p.1 (p.2.map V.int) := fun p hp => SqT.of (hat p hp).2
      refine ⟨_, rfl, L, ks, rfl, SqL.of hHL, fresh, by omega, fun a S ha sub all => ?_⟩
      have y4 := Ex.new (B := []) (o := SetTO P w a S) ha
      have inB : ∀ p ∈ S, ∃ x, p.2 = stI h x ∧ x ∈ begins h h.L := fun p hp => by
        have : p.2 ∈ ks.map (·.2) := List.mem_map.mpr ⟨p, sub p hp, rfl⟩
        rw [hks] at this
        obtain ⟨x, hx, e⟩ := List.mem_map.mp this
        exact ⟨x, e.symm, hx⟩
      have bd : ∀ x ∈ begins h h.L, 0 ≤ x ∧ x < h.drops ∧ 1 ≤ h.lostZ x ∧ h.lostZ x < h.drops := fun x hx => by
        obtain ⟨a1, a2, a3, _⟩ := (begins_mem hk x).mp hx
        exact ⟨a1, a2, a3, Hill.lost_lt hL0 hk.nn hd hm0 (Hill.lostZ_spec hL0 hk.nn hk.op hd x)⟩
      refine ⟨a, S, 2, 10 ^ 20, rfl, upd_same, fun p hp => SqT.of (y4.1 _ _ (by simp) (hat p (sub p hp)).2), by decide, fun p hp => ?_, fun S' pz perm nodup len pw hpz => ?_⟩
      · obtain ⟨x, e, hx⟩ := inB p hp
        obtain ⟨a1, a2, a3, a4⟩ := bd x hx
        rw [e]
        refine ⟨rfl, fun z hz => ?_⟩
        unfold stI at hz
        simp only [List.mem_cons, List.not_mem_nil, or_false] at hz
        rcases hz with rfl | rfl <;> omega
      have code2 : ∀ x y : Int, TS.code (10 ^ 20) [x, y] = x * 10 ^ 20 + y := fun x y => by
        show x * ((10 : Int) ^ 20) ^ 1 + (y * ((10 : Int) ^ 20) ^ 0 + 0) = _
        rw [Int.pow_succ, Int.pow_zero, Int.one_mul, Int.mul_one, Int.add_zero]
      have inS : ∀ p ∈ S', ∃ x, p.2 = stI h x ∧ p.2.headD 0 = x ∧ x ∈ begins h h.L ∧ p ∈ S := fun p hp => by
        have hp' := perm.mem_iff.mp hp
        obtain ⟨x, e, hx⟩ := inB p hp'
        exact ⟨x, e, by rw [e]; rfl, hx, hp'⟩
      have x5 := (x3.trans y4).trans (Ex.new (B := []) (o := .lst (S'.map fun q => V.ref q.1)) hpz)
      have pz0 : H pz = none := (x3.trans y4).free hpz
      refine q (S'.map fun p => p.2.headD 0) _ pz _ ⟨?_, fun x => ?_⟩ pz0 upd_same (fun B hB => ?_) x5
      · rw [List.pairwise_map, List.pairwise_iff_getElem]
        intro i j hi hj hij
        have c := List.pairwise_iff_getElem.mp pw i j hi hj hij
        have n := List.pairwise_iff_getElem.mp nodup i j (by rw [List.length_map]; exact hi) (by rw [List.length_map]; exact hj) hij
        rw [List.getElem_map, List.getElem_map] at n
        obtain ⟨x, e1, e2, hx, _⟩ := inS _ (List.getElem_mem hi)
        obtain ⟨x', e1', e2', hx', _⟩ := inS _ (List.getElem_mem hj)
        rw [e2, e2']
        rw [e1, e1'] at c n
        unfold stI at c
        rw [code2, code2] at c
        obtain ⟨a1, a2, a3, a4⟩ := bd x hx
        obtain ⟨b1, b2, b3, b4⟩ := bd x' hx'
        have ne : x ≠ x' := fun z => n (by rw [z])
        omega
      · rw [← begins_mem hk x, List.mem_map]
        constructor
        · rintro ⟨p, hp, rfl⟩
          obtain ⟨x, _, e2, hx, _⟩ := inS p hp
          rw [e2]; exact hx
        · intro hx
          have : stI h x ∈ ks.map (·.2) := by rw [hks]; exact List.mem_map.mpr ⟨x, hx, rfl⟩
          obtain ⟨p, hp, e⟩ := List.mem_map.mp this
          obtain ⟨p', hp', e'⟩ := List.mem_map.mp (all p hp)
          refine ⟨p', perm.mem_iff.mpr hp', ?_⟩
          rw [e', e]; rfl
      · refine dpa_of (by rw [List.length_map, List.length_map, List.length_map]) fun i u hu => ?_
        rw [List.getElem?_map] at hu
        obtain ⟨p, hp, rfl⟩ := Option.map_eq_some_iff.mp hu
        obtain ⟨x, e1, e2, _, hpS⟩ := inS p (List.mem_of_getElem? hp)
        obtain ⟨a1, a2⟩ := hat p (sub p hpS)
        have a3 := y4.1 _ _ (by simp) a2
        have nz : p.1 ≠ pz := ne_of_none a3 hpz
        refine ⟨stD h x, by rw [List.getElem?_map, List.getElem?_map, hp]; show some (stD h (p.2.headD 0)) = _; rw [e2], ?_⟩
        refine .tup (SqT.of (wo_of (fun z => ?_) (by rw [upd_ne nz]; exact a3))) (by rw [e1]; exact dpa_of_ints _)
        rcases List.mem_cons.mp z with z | z
        · exact nz z
        · exact hB _ z a1
end
end Z64
set_option Elab.async false
set_option linter.all false
set_option maxRecDepth 100000
set_option maxHeartbeats 4000000
namespace Hz
open PySem PySem.Spec PyProof.Rows L2
/-! ### comprehensions whose values are told outright: nothing changes -/
section
variable {K : PySem.W.Frag} {g : TG} {tt : TT} {te : TE} {vs : List Nat} {σ : L2.St} {H : Hp}
/-- what has been made behind i items -/
abbrev LcF (H1 : Hp) (D : Addr) (p : Nat → Bool) (f : Nat → V) (i : Nat) (H' : Hp) : Prop := Ex [] H1 H' ∧ H' D = some (.lst (((List.range i).filter p).map f))
theorem lcF_next {H1 : Hp} {D : Addr} {p : Nat → Bool} {f : Nat → V} {i : Nat} {H' : Hp} (hD : H1 D = none) (hi : i < 100000) (P : LcF H1 D p f i H') {x : V} (turn : ∀ (N : VK) (M : Hp → Prop), (p i = true → ∀ H3, Ex [] H' H3 → N (f i) H3) → (p i = false → ∀ H3, Ex [] H' H3 → M H3) →
      g x (wipe σ vs) H' fun σ2 H2 => wipe σ2 vs = wipe σ vs ∧ tt σ2 H2 fun b H3 => if b = true then te σ2 H3 N else M H3) :
    g x (wipe σ vs) H' fun σ2 H2 => wipe σ2 vs = wipe σ vs ∧ tt σ2 H2 fun b H3 => if b = true then te σ2 H3 fun y H4 => ∃ acc, H4 D = some (.lst acc) ∧ acc.length < sizeLine ∧ LcF H1 D p f (i + 1) (upd H4 D (.lst (acc ++ [y]))) else LcF H1 D p f (i + 1) H3 := by
  obtain ⟨e1, hz⟩ := P
  have hlen : (((List.range i).filter p).map f).length ≤ i := by
    rw [List.length_map]
    have := List.length_filter_le p (List.range i)
    rwa [List.length_range] at this
  refine turn _ _ (fun pi H3 x3 => ⟨_, x3.1 _ _ (by simp) hz, sz_lt (by omega), (e1.trans x3).mutNew' hD, ?_⟩) (fun pi H3 x3 => ⟨e1.trans x3, ?_⟩)
  · rw [upd_same, List.range_succ, List.filter_append, List.map_append, List.filter_cons_of_pos pi, List.filter_nil]; rfl
  · rw [List.range_succ, List.filter_append, List.map_append, List.filter_cons_of_neg (by rw [pi]; decide), List.filter_nil, List.map_nil, List.append_nil]
    exact x3.1 _ _ (by simp) hz
/-- over a list or a tuple -/
theorem z_lcP {t : Bool} {xs : List V} {tl : TE} {Q : VK} (htl : ∀ R : VK, (∀ a H1, Ex [] H H1 → SqX t K H1 a xs → R (.ref a) H1) → tl σ H R) (hn : xs.length < 100000) (p : Nat → Bool) (f : Nat → V)
    (turn : ∀ (i : Nat) x H', xs[i]? = some x → Ex [] H H' → ∀ (N : VK) (M : Hp → Prop), (p i = true → ∀ H3, Ex [] H' H3 → N (f i) H3) → (p i = false → ∀ H3, Ex [] H' H3 → M H3) →
      g x (wipe σ vs) H' fun σ2 H2 => wipe σ2 vs = wipe σ vs ∧ tt σ2 H2 fun b H3 => if b = true then te σ2 H3 N else M H3)
    (fin : ∀ D H', H D = none → H' D = some (.lst (((List.range xs.length).filter p).map f)) → Ex [] H H' → Q (.ref D) H') : tLc (fun σ H R => iList K tl σ H R ∨ iTup K tl σ H R) g tt te vs σ H Q := by
  have lt : ∀ {i : Nat} {x : V}, xs[i]? = some x → i < xs.length := fun h => by
    obtain ⟨h, _⟩ := List.getElem?_eq_some_iff.mp h
    exact h
  have step : ∀ H1, Ex [] H H1 → ∀ D, H1 D = none → ∀ i x H', xs[i]? = some x → LcF H1 D p f i H' → _ := fun H1 x1 D hD i x H' hx P => lcF_next (g := g) (tt := tt) (te := te) (vs := vs) (σ := σ) hD (by have := lt hx; omega) P (x := x) (turn i x H' hx (x1.trans P.1))
  cases t with
  | false => exact .inl (htl _ fun a H1 x1 hS => ⟨a, rfl, ⟨xs, hS⟩, fun D hD => lc_list (LcF H1 D p f) ⟨Ex.new hD, upd_same⟩ (fun i H' _ P => le_l P.1.le0 hS) (fun i x H' hx P => step H1 x1 D hD i x H' hx P) (fun H' P => fin D H' (x1.free hD) P.2 (x1.trans P.1))⟩)
  | true => exact .inr (htl _ fun a H1 x1 hS => ⟨a, rfl, ⟨xs, hS⟩, fun D hD => lc_tup (LcF H1 D p f) ⟨Ex.new hD, upd_same⟩ (fun i H' _ P => le_t P.1.le0 hS) (fun i x H' hx P => step H1 x1 D hD i x H' hx P) (fun H' P => fin D H' (x1.free hD) P.2 (x1.trans P.1))⟩)
theorem filter_yes {n : Nat} {f : Nat → V} : ((List.range n).filter fun _ => true).map f = (List.range n).map f := by
  rw [List.filter_eq_self.mpr (fun _ _ => rfl)]
/-- .. without a test -/
theorem z_lcP1 {t : Bool} {xs : List V} {tl : TE} {Q : VK} (htl : ∀ R : VK, (∀ a H1, Ex [] H H1 → SqX t K H1 a xs → R (.ref a) H1) → tl σ H R) (hn : xs.length < 100000) (f : Nat → V)
    (turn : ∀ (i : Nat) x H', xs[i]? = some x → Ex [] H H' → ∀ (N : VK), (∀ H3, Ex [] H' H3 → N (f i) H3) → g x (wipe σ vs) H' fun σ2 H2 => wipe σ2 vs = wipe σ vs ∧ te σ2 H2 N)
    (fin : ∀ D H', H D = none → H' D = some (.lst ((List.range xs.length).map f)) → Ex [] H H' → Q (.ref D) H') : tLc (fun σ H R => iList K tl σ H R ∨ iTup K tl σ H R) g tYes te vs σ H Q :=
  z_lcP (t := t) htl hn (fun _ => true) f (fun i x H' hx e N M hN _ => by
    have := turn i x H' hx e N (hN rfl)
    simpa only [tYes, if_true, eq_self] using this) (fun D H' hD hz e => fin D H' hD (by rw [hz, filter_yes]) e)
/-- over a list, with a test -/
theorem z_lcLP {xs : List V} {tl : TE} {Q : VK} (htl : ∀ R : VK, (∀ a H1, Ex [] H H1 → SqL K H1 a xs → R (.ref a) H1) → tl σ H R) (hn : xs.length < 100000) (p : Nat → Bool) (f : Nat → V)
    (turn : ∀ (i : Nat) x H', xs[i]? = some x → Ex [] H H' → ∀ (N : VK) (M : Hp → Prop), (p i = true → ∀ H3, Ex [] H' H3 → N (f i) H3) → (p i = false → ∀ H3, Ex [] H' H3 → M H3) →
      g x (wipe σ vs) H' fun σ2 H2 => wipe σ2 vs = wipe σ vs ∧ tt σ2 H2 fun b H3 => if b = true then te σ2 H3 N else M H3)
    (fin : ∀ D H', H D = none → H' D = some (.lst (((List.range xs.length).filter p).map f)) → Ex [] H H' → Q (.ref D) H') : tLc (iList K tl) g tt te vs σ H Q := by
  have lt : ∀ {i : Nat} {x : V}, xs[i]? = some x → i < xs.length := fun h => by
    obtain ⟨h, _⟩ := List.getElem?_eq_some_iff.mp h
    exact h
  refine htl _ fun a H1 x1 hS => ⟨a, rfl, ⟨xs, hS⟩, fun D hD => lc_list (LcF H1 D p f) ⟨Ex.new hD, upd_same⟩ (fun i H' _ P => le_l P.1.le0 hS) (fun i x H' hx P => ?_) (fun H' P => fin D H' (x1.free hD) P.2 (x1.trans P.1))⟩
  exact lcF_next (g := g) (tt := tt) (te := te) (vs := vs) (σ := σ) hD (by have := lt hx; omega) P (x := x) (turn i x H' hx (x1.trans P.1))
/-- .. over a list -/
theorem z_lcL1 {xs : List V} {tl : TE} {Q : VK} (htl : ∀ R : VK, (∀ a H1, Ex [] H H1 → SqL K H1 a xs → R (.ref a) H1) → tl σ H R) (hn : xs.length < 100000) (f : Nat → V)
    (turn : ∀ (i : Nat) x H', xs[i]? = some x → Ex [] H H' → ∀ (N : VK), (∀ H3, Ex [] H' H3 → N (f i) H3) → g x (wipe σ vs) H' fun σ2 H2 => wipe σ2 vs = wipe σ vs ∧ te σ2 H2 N)
    (fin : ∀ D H', H D = none → H' D = some (.lst ((List.range xs.length).map f)) → Ex [] H H' → Q (.ref D) H') : tLc (iList K tl) g tYes te vs σ H Q := by
  have lt : ∀ {i : Nat} {x : V}, xs[i]? = some x → i < xs.length := fun h => by
    obtain ⟨h, _⟩ := List.getElem?_eq_some_iff.mp h
    exact h
  refine htl _ fun a H1 x1 hS => ⟨a, rfl, ⟨xs, hS⟩, fun D hD => lc_list (LcF H1 D (fun _ => true) f) ⟨Ex.new hD, upd_same⟩ (fun i H' _ P => le_l P.1.le0 hS) (fun i x H' hx P => ?_) (fun H' P => fin D H' (x1.free hD) (by rw [P.2, filter_yes]) (x1.trans P.1))⟩
  refine lcF_next (g := g) (tt := tYes) (te := te) (vs := vs) (σ := σ) hD (by have := lt hx; omega) P (x := x) fun N M hN _ => ?_
  have := turn i x H' hx (x1.trans P.1) N (hN rfl)
  simpa only [tYes, if_true, eq_self] using this
/-- over range -/
theorem z_lcN {n : Nat} {lo : Int} {Q : VK} {wi : TI} (hwi : ∀ R : It → Hp → Prop, (∀ H1, Ex [] H H1 → R (Itr lo n) H1) → wi σ H R) (hn : n < 100000) (f : Nat → V)
    (turn : ∀ (i : Nat) H', i < n → Ex [] H H' → ∀ (N : VK), (∀ H3, Ex [] H' H3 → N (f i) H3) → g (.int (lo + i)) (wipe σ vs) H' fun σ2 H2 => wipe σ2 vs = wipe σ vs ∧ te σ2 H2 N)
    (fin : ∀ D H', H D = none → H' D = some (.lst ((List.range n).map f)) → Ex [] H H' → Q (.ref D) H') : tLc wi g tYes te vs σ H Q :=
  z_lcRF hwi hn (fun _ => true) f (fun H1 x1 i hi D H' hD e nD N M hN _ => by
    have := turn i H' hi (x1.trans e) N (hN rfl)
    simpa only [tYes, if_true, eq_self] using this) (fun H1 x1 D H' hD hz e => fin D H' (x1.free hD) (by rw [hz, filter_yes]) (x1.trans e))
/-- over zip of two lists (two tuples), not always of one length -/
theorem z_lcZN {t : Bool} {xs ys : List V} {n : Nat} {ta : TA} {Q : VK} (hx : n ≤ xs.length) (hy : n ≤ ys.length) (hxy : xs.length = n ∨ ys.length = n) (hn : n < 100000) (hta : ∀ R : List V → Hp → Prop, (∀ a b H1, Ex [] H H1 → SqX t K H1 a xs → SqX t K H1 b ys → R [.ref a, .ref b] H1) → ta σ H R) (f : Nat → V)
    (turn : ∀ (i : Nat) x y T H', xs[i]? = some x → ys[i]? = some y → Ex [] H H' → H' T = some (.tup [x, y]) → ∀ (N : VK), (∀ H3, Ex [] H' H3 → N (f i) H3) → g (.ref T) (wipe σ vs) H' fun σ2 H2 => wipe σ2 vs = wipe σ vs ∧ te σ2 H2 N)
    (fin : ∀ D H', H D = none → H' D = some (.lst ((List.range n).map f)) → Ex [] H H' → Q (.ref D) H') : tLc (RZ.iZipA K ta) g tYes te vs σ H Q := by
  refine hta _ fun a b H1 x1 qx qy => ?_
  have core : ∀ (J0 : It), (∀ i H', i < n → Ex [] H1 H' → J0.go i H') → (∀ H', Ex [] H1 H' → J0.stop n H') →
      (∀ i H' v H'', Ex [] H1 H' → J0.yld i H' v H'' → ∃ T x y, v = .ref T ∧ H' T = none ∧ H'' = upd H' T (.tup [x, y]) ∧ xs[i]? = some x ∧ ys[i]? = some y) →
      ∀ D, H1 D = none → ∃ W : Nat → Nat → Hp → Prop, (∃ m, W 0 m (upd H1 D (.lst []))) ∧ ∀ i m H, W i m H →
      ((J0.stop i H ∧ Q (.ref D) H) ∨ (J0.go i H ∧ ∃ Nx : Hp → Prop, (∀ H', Nx H' → ∃ m', m' < m ∧ W (i + 1) m' H') ∧ ∀ x H', J0.yld i H x H' → g x (wipe σ vs) H' fun σ2 H2 => wipe σ2 vs = wipe σ vs ∧ tYes σ2 H2 fun b H3 =>
        if b = true then te σ2 H3 fun y H4 => ∃ acc, H4 D = some (.lst acc) ∧ acc.length < sizeLine ∧ Nx (upd H4 D (.lst (acc ++ [y]))) else Nx H3)) := fun J0 hgo hstop hyld D hD => by
    refine ⟨fun i m H' => m = n - i ∧ i ≤ n ∧ LcF H1 D (fun _ => true) f i H', ⟨n, rfl, Nat.zero_le _, Ex.new hD, upd_same⟩, ?_⟩
    rintro i m H' ⟨rfl, hi, p⟩
    by_cases hlt : i < n
    · refine .inr ⟨hgo i H' hlt p.1, fun H'' => LcF H1 D (fun _ => true) f (i + 1) H'', fun H'' p' => ⟨n - (i + 1), by omega, rfl, hlt, p'⟩, fun v H'' yl => ?_⟩
      obtain ⟨T, x, y, rfl, hT, rfl, ex, ey⟩ := hyld i H' v H'' p.1 yl
      have xT : Ex [] H' (upd H' T (.tup [x, y])) := Ex.new hT
      have pT : LcF H1 D (fun _ => true) f i (upd H' T (.tup [x, y])) := ⟨p.1.trans xT, xT.1 _ _ (by simp) p.2⟩
      exact lcF_next hD (by omega) pT (x := .ref T) fun N M hN _ => by
        have := turn i x y T _ ex ey (x1.trans pT.1) upd_same N (hN rfl)
        simpa only [tYes, if_true, eq_self] using this
    · have e : i = n := by omega
      subst e
      exact .inl ⟨hstop H' p.1, fin D H' (x1.free hD) (by rw [p.2, filter_yes]) (x1.trans p.1)⟩
  cases t with
  | false =>
    have qx' : ∀ H', Ex [] H1 H' → SqL K H' a xs := fun H' e => le_l e.le0 qx
    have qy' : ∀ H', Ex [] H1 H' → SqL K H' b ys := fun H' e => le_l e.le0 qy
    refine ⟨a, b, xs, ys, rfl, .inl ⟨qx, qy, core (Itz K a b) (fun i H' hi e => ?_) (fun H' e => ?_) (fun i H' v H'' e yl => ?_)⟩⟩
    · exact ⟨xs, ys, _, _, qx' H' e, qy' H' e, List.getElem?_eq_getElem (by omega), List.getElem?_eq_getElem (by omega)⟩
    · exact ⟨xs, ys, qx' H' e, qy' H' e, by omega⟩
    · obtain ⟨T, x, y, rfl, hT, rfl, f1, f2⟩ := yl
      exact ⟨T, x, y, rfl, hT, rfl, f1 xs (qx' H' e), f2 ys (qy' H' e)⟩
  | true =>
    have qx' : ∀ H', Ex [] H1 H' → SqT K H' a xs := fun H' e => le_t e.le0 qx
    have qy' : ∀ H', Ex [] H1 H' → SqT K H' b ys := fun H' e => le_t e.le0 qy
    refine ⟨a, b, xs, ys, rfl, .inr ⟨qx, qy, core (RZ.ItzT K a b) (fun i H' hi e => ?_) (fun H' e => ?_) (fun i H' v H'' e yl => ?_)⟩⟩
    · exact ⟨xs, ys, _, _, qx' H' e, qy' H' e, List.getElem?_eq_getElem (by omega), List.getElem?_eq_getElem (by omega)⟩
    · exact ⟨xs, ys, qx' H' e, qy' H' e, by omega⟩
    · obtain ⟨T, x, y, rfl, hT, rfl, f1, f2⟩ := yl
      exact ⟨T, x, y, rfl, hT, rfl, f1 xs (qx' H' e), f2 ys (qy' H' e)⟩
end
theorem atI_end {xs : List V} {n : Nat} {v : V} (hl : xs.length = n + 1) (h : xs[n]? = some v) : atI xs (-1) = some v := by
  have e : xs = xs.take n ++ [v] := by
    have := List.take_append_drop n xs
    have d : xs.drop n = [v] := by
      have hn : n < xs.length := by omega
      rw [List.drop_eq_getElem_cons hn, List.drop_eq_nil_of_le (by omega)]
      rw [List.getElem?_eq_getElem hn] at h
      rw [Option.some.inj h]
    rw [d] at this
    exact this.symm
  rw [e]
  exact atI_last _ _
theorem cut_tail (xs : List V) (n : Nat) : cutV xs (some (n : Int)) none = xs.drop n := by
  unfold cutV
  rw [HT.sIx_nat, HT.sIx_none]
  by_cases h2 : n ≤ xs.length
  · rw [Nat.min_eq_left h2, List.take_of_length_le]
    rw [List.length_drop]
    omega
  · rw [Nat.min_eq_right (by omega), Nat.sub_self, List.take_zero, List.drop_eq_nil_of_le (by omega)]
section
variable {K : PySem.W.Frag}
/-- tuple + tuple -/
theorem z_catT {H : Hp} {a b : Addr} {xs ys : List V} {Q : VK} (ha : SqT K H a xs) (hb : SqT K H b ys) (hl : xs.length + ys.length ≤ sizeLine) (q : ∀ p H', Ex [] H H' → SqT K H' p (xs ++ ys) → Q (.ref p) H') : rCatA K (.ref a) (.ref b) H Q := by
  refine ⟨a, b, xs, ys, rfl, rfl, ha, hb, hl, fun e => ?_, fun _ e => ?_, fun _ _ p hp => ?_⟩
  · subst e
    exact q b H (Ex.refl _ _) hb
  · subst e
    exact q a H (Ex.refl _ _) (by rwa [List.append_nil])
  · exact q p _ (Ex.new hp) (SqT.of upd_same)
theorem dpt_ints {ns : List Int} (N : Nat) (h : ns.length ≤ 1000) : dpt (N + 1) (.list (ns.map PyData.int)) := ⟨by rw [List.length_map]; exact h, fun d hd => by
  obtain ⟨i, _, rfl⟩ := List.mem_map.mp hd
  cases N <;> trivial⟩
/-- a list of ints as data -/
theorem dp_il {G : Hp} {p : Addr} {ns : List Int} (e : G p = some (.lst (ns.map V.int))) : Dp K G (.ref p) (.list (ns.map PyData.int)) := .lst (SqL.of e) (dpa_of_ints _)
/-- [i] * n -/
theorem z_repI {H : Hp} {l : Addr} {i : Int} {n : Nat} {Q : VK} (h : H l = some (.lst [.int i])) (hn : n ≤ 1000) (q : ∀ p, H p = none → Q (.ref p) (upd H p (.lst ((List.replicate n i).map V.int)))) : rRep (.ref l) (.int n) H Q := by
  refine ⟨l, n, _, rfl, rfl, h, by omega, by omega, ?_, fun p hp => ?_⟩
  · exact sz_of (by rw [List.length_singleton]; omega)
  · have e : (List.replicate (Int.toNat n) [V.int i]).flatten = (List.replicate n i).map V.int := by
      rw [List.flatten_replicate_singleton, List.map_replicate]
      rfl
    rw [e]
    exact q p hp
end
section
variable {K : PySem.W.Frag} {g : TG} {tt : TT} {te : TE} {vs : List Nat} {σ : L2.St} {H : Hp} {Q : VK}
/-- a comprehension over what is told: what tells it goes ahead -/
theorem lc_bindL {tl : TE} (h : tl σ H fun x H1 => tLc (iList K (tC x)) g tt te vs σ H1 Q) : tLc (fun σ H R => iList K tl σ H R ∨ iTup K tl σ H R) g tt te vs σ H Q := .inl h
theorem zip_bind {t1 t2 : TE} (h : t1 σ H fun x H1 => t2 σ H1 fun y H2 => tLc (RZ.iZipA K (tCons (tC x) (tCons (tC y) tNil))) g tt te vs σ H2 Q) : tLc (RZ.iZipA K (tCons t1 (tCons t2 tNil))) g tt te vs σ H Q := h
end
/-- what is told of each item of a list -/
theorem map_at {α : Type} (l : List α) (f : α → V) : (List.range l.length).map (fun i => ((l[i]?).map f).getD .non) = l.map f := by
  refine List.ext_getElem (by simp) fun i h1 h2 => ?_
  rw [List.getElem_map, List.getElem_map, List.getElem_range]
  rw [List.length_map] at h2
  rw [List.getElem?_eq_getElem h2]
  rfl
theorem eqv_int_lists (t : Bool) : ∀ (a b : List Int), PyData.eqv (sq t (a.map PyData.int)) (sq t (b.map PyData.int)) = decide (a = b) := by
  have key : ∀ a b : List Int, PyData.eqvAll (a.map PyData.int) (b.map PyData.int) = decide (a = b) := by
    intro a
    induction a with
    | nil => intro b; cases b <;> simp [PyData.eqvAll]
    | cons n a ih =>
      intro b
      cases b with
      | nil => simp [PyData.eqvAll]
      | cons m b =>
        simp only [List.map_cons, PyData.eqvAll, PyData.eqv, ih, List.cons.injEq]
        by_cases c : n = m <;> by_cases e : a = b <;> simp [c, e]
  intro a b
  cases t
  · show PyData.eqv (.list _) (.list _) = _
    simp only [PyData.eqv, key]
  · show PyData.eqv (.tuple _) (.tuple _) = _
    simp only [PyData.eqv, key]
section
variable {c : TT} {t u rest : TS} {D : Ends} {σ : L2.St} {H : Hp}
theorem seq_asg {e : TE} {g : TG} (h : e σ H fun v H1 => g v σ H1 (rest D)) : tSeq (tAsg e g) rest D σ H := h
theorem seq_for {w : TE} {K : PySem.W.Frag} {g : TG} {tb : TS} (h : ∀ D' : Ends, D' = { D with nx := rest D } → w σ H fun x H1 => ∃ a, x = .ref a ∧ (∃ xs, SqL K H1 a xs) ∧ ∃ W : Nat → Nat → L2.St → Hp → Prop, (∃ m, W 0 m σ H1) ∧ ∀ i m σ H, W i m σ H → ((Itl K a).stop i H ∧ D'.nx σ H) ∨ ((Itl K a).go i H ∧ ∃ N : L2.St → Hp → Prop, (∀ σ' H', N σ' H' → ∃ m', m' < m ∧ W (i + 1) m' σ' H') ∧ ∀ x H', (Itl K a).yld i H x H' → g x σ H' fun σ2 H2 => tb { D' with nx := N, ct := N, bk := D'.nx } σ2 H2)) : tSeq (tFor (iList K w) g tb) rest D σ H := h _ rfl
theorem if_any {K : PySem.W.Frag} {ta : TE} {t u : TS} (h : ta σ H fun x H1 => rAny K [x] H1 fun y H2 => ∃ k, y = .bl k ∧ if k = true then t D σ H2 else u D σ H2) : tIfS (tB (tCB (rAny K) (tCons ta tNil))) t u D σ H := h
theorem asg_join {e : TE} {g : TG} (P : V → Hp → Prop) (h1 : ∀ Q' : VK, (∀ v G, P v G → Q' v G) → e σ H Q') (h2 : ∀ v G, P v G → g v σ G (rest D)) : tSeq (tAsg e g) rest D σ H := h1 _ h2
/-- behind an if both ways go on alike -/
theorem seq_join (P : L2.St → Hp → Prop) (h1 : ∀ N : L2.St → Hp → Prop, (∀ σ' H', P σ' H' → N σ' H') → tIfS c t u { D with nx := N } σ H) (h2 : ∀ σ' H', P σ' H' → rest D σ' H') : tSeq (tIfS c t u) rest D σ H := h1 _ h2
end
end Hz
set_option Elab.async false
set_option linter.all false
set_option maxRecDepth 100000
namespace PySem.W
open PySem PySem.SeqAt PyProof.Rows
section
variable {prog : Program} {w : World} {A : Around} {E : Value → Shared → Prop} {s : Shared}
/-- min of a list of alike data: the item of that place, as it stands -/
theorem min_list_at {l : Addr} {vs : Array Value} {x : PyData} {xs : List PyData} {as : List Addr} {Q : Value → Shared → Prop} (hh : A.handled = none) (hl : s.heap.IsList l vs) (hr : ReadsAll s.heap vs.toList (x :: xs) as) (ha : AlikeAll (x :: xs)) (hu : A.units + 1 + PyData.depthAll (x :: xs) < cLine)
    (h : ∀ (i : Nat) v h' tk, vs[i]? = some v → (x :: xs).getD i .none = minD x xs → (∀ b o, s.heap.get? b = some o → h'.get? b = some o) → Q v { s with heap := h', toks := tk }) :
    wpAny (model prog w) A (call (.builtin "min") [.ref l]) Q E s := by
  have hn : vs.size = xs.length + 1 := readsAll_len hr
  refine call_min_walkH (iter_listW (A := A.in1) hh hl fun s₂ e W st hfp hw hk => ?_)
  refine ⟨_, _, _, _, _, _, _, s.heap, _, rfl, W, st, hfp, by omega, hw, hk, cmpIn_lt (A := A.in1) hr ha (by show A.units + 1 + _ < _; exact hu), fun v s' hP m => ?_⟩
  obtain ⟨h', tk, rfl, hk'⟩ := moved_old e rfl m
  have e1 : vs.size - 1 = xs.length := by omega
  have e2 := (argBest_fold dataLt PyData.none x xs xs.length (Nat.le_refl _)).2
  rw [List.take_length] at e2
  refine h _ v h' tk hP ?_ hk'
  rw [e1]
  exact e2
end
end PySem.W
namespace Hz
open PySem PySem.SeqAt PyProof.Rows L2
/-- a pair as data -/
def pd (q : Int × Int) : PyData := .tuple [.int q.1, .int q.2]
def PLt (q r : Int × Int) : Prop := q.1 < r.1 ∨ q.1 = r.1 ∧ q.2 < r.2
theorem lt_pd (q r : Int × Int) : PySem.W.dataLt (pd q) (pd r) = true ↔ PLt q r := by
  obtain ⟨a, b⟩ := q
  obtain ⟨c, d⟩ := r
  show lexLt itemOrd [.inl 1, .inl a, .inl 1, .inl b, .inl 0] [.inl 1, .inl c, .inl 1, .inl d, .inl 0] = true ↔ (a < c ∨ a = c ∧ b < d)
  have z : ∀ i : Int, itemLt (.inl i) (.inl i) = false := fun i => itemOrd.irrefl (.inl i)
  have t : ∀ i j : Int, itemLt (.inl i) (.inl j) = decide (i < j) := fun _ _ => rfl
  have n : lexLt itemOrd [] [] = false := rfl
  rw [lex_cons, lex_cons, lex_cons, lex_cons, lex_cons, n]
  simp only [z, t, Bool.false_or, Bool.not_false, Bool.true_and, Bool.and_false, Bool.or_false, Bool.or_eq_true, Bool.and_eq_true, decide_eq_true_eq, Bool.not_eq_true', decide_eq_false_iff_not]
  omega
theorem alike_pd (L : List (Int × Int)) : PySem.W.AlikeAll (L.map pd) := ⟨fun x hx y hy => by
  obtain ⟨q, _, rfl⟩ := List.mem_map.mp hx
  obtain ⟨r, _, rfl⟩ := List.mem_map.mp hy
  rfl, fun x hx => by
  obtain ⟨q, _, rfl⟩ := List.mem_map.mp hx
  exact fun z => by cases z⟩
theorem depth_pd : ∀ L : List (Int × Int), PyData.depthAll (L.map pd) ≤ 2
  | [] => Nat.zero_le _
  | q :: L => Nat.max_le.mpr ⟨by simp [pd, PyData.depth, PyData.depthAll], depth_pd L⟩
/-- the least pair -/
def Least (L : List (Int × Int)) (q : Int × Int) : Prop := q ∈ L ∧ ∀ r ∈ L, ¬ PLt r q
theorem least_fold : ∀ (x : Int × Int) (xs : List (Int × Int)), ∃ q, Least (x :: xs) q ∧ PySem.W.minD (pd x) (xs.map pd) = pd q := by
  have go : ∀ (xs : List (Int × Int)) (x : Int × Int) (B : List (Int × Int)), x ∈ B → (∀ r ∈ B, ¬ PLt r x) → ∃ q, q ∈ B ++ xs ∧ (∀ r ∈ B ++ xs, ¬ PLt r q) ∧ PySem.W.minD (pd x) (xs.map pd) = pd q := fun xs => by
    induction xs with
    | nil => intro x B hx hB; exact ⟨x, by rw [List.append_nil]; exact hx, by rw [List.append_nil]; exact hB, rfl⟩
    | cons y ys ih =>
      intro x B hx hB
      by_cases c : PLt y x
      · obtain ⟨q, h1, h2, h3⟩ := ih y (B ++ [y]) (by simp) (fun r hr => by
          rcases List.mem_append.mp hr with h | h
          · have := hB r h
            unfold PLt at *
            omega
          · rw [List.mem_singleton.mp h]
            unfold PLt
            omega)
        refine ⟨q, by simpa using h1, fun r hr => h2 r (by simpa using hr), ?_⟩
        rw [← h3]
        show List.foldl _ (if PySem.W.dataLt (pd y) (pd x) = true then pd y else pd x) _ = _
        rw [if_pos ((lt_pd y x).mpr c)]
        rfl
      · obtain ⟨q, h1, h2, h3⟩ := ih x (B ++ [y]) (List.mem_append_left _ hx) (fun r hr => by
          rcases List.mem_append.mp hr with h | h
          · exact hB r h
          · rw [List.mem_singleton.mp h]
            exact c)
        refine ⟨q, by simpa using h1, fun r hr => h2 r (by simpa using hr), ?_⟩
        rw [← h3]
        show List.foldl _ (if PySem.W.dataLt (pd y) (pd x) = true then pd y else pd x) _ = _
        rw [if_neg (fun z => c ((lt_pd y x).mp z))]
        rfl
  intro x xs
  obtain ⟨q, h1, h2, h3⟩ := go xs x [x] (List.mem_singleton.mpr rfl) (fun r hr => by rw [List.mem_singleton.mp hr]; unfold PLt; omega)
  exact ⟨q, ⟨h1, h2⟩, h3⟩
theorem pd_inj {q r : Int × Int} (h : pd q = pd r) : q = r := by
  obtain ⟨a, b⟩ := q
  obtain ⟨c, d⟩ := r
  unfold pd at h
  injection h with h
  injection h with h1 h2
  injection h2 with h2 _
  injection h1 with h1
  injection h2 with h2
  rw [show a = c from h1, show b = d from h2]
section
variable {X : Cx}
/-- min of a list of pairs: the least one, as it stands -/
def rMinP (K : PySem.W.Frag) : List V → Hp → VK → Prop := fun vs H Q => ∃ (v : V) (L : List (Int × Int)), vs = [v] ∧ Dp K H v (.list (L.map pd)) ∧ L ≠ [] ∧ ∀ z q, Least L q → Dp K H z (pd q) → Q z H
theorem cr_minP (hc : X.calm = true) (hu : X.A.units + 64 < cLine) : CallR X (.builtin "min") (rMinP X.K) := by
  intro pins s σ H vs us Q I r h
  obtain ⟨v, L, rfl, hD, hne, q⟩ := h
  cases hD with
  | lst hS hA =>
  rename_i a xs
  obtain ⟨its, rv, hl, _⟩ := I.list hS
  rw [Vals.ref1 r]
  obtain ⟨as, hr⟩ := Dp.readsAll I _ _ _ hA rv
  obtain ⟨x, ys, rfl⟩ : ∃ x ys, L = x :: ys := by
    cases L with
    | nil => exact absurd rfl hne
    | cons x ys => exact ⟨x, ys, rfl⟩
  have dd : PyData.depthAll ((x :: ys).map pd) ≤ 2 := depth_pd _
  refine PySem.W.min_list_at (x := pd x) (xs := ys.map pd) (I.ok.hd hc) hl.isList (by simpa using hr) (alike_pd (x :: ys)) (Nat.lt_of_le_of_lt (Nat.add_le_add_left dd _) (by omega)) fun i u h' tk hi hm hk => ?_
  obtain ⟨p, hp, ep⟩ := least_fold x ys
  have hi' : its[i]? = some u := by simpa using hi
  obtain ⟨z, hz, rz⟩ : ∃ z, xs[i]? = some z ∧ RelV z u := by
    have hlt : i < xs.length := by
      rw [rv.length]
      exact (List.getElem?_eq_some_iff.mp hi').1
    obtain ⟨u', h1, h2⟩ := rv.get (List.getElem?_eq_getElem hlt)
    rw [hi'] at h1
    cases h1
    exact ⟨_, List.getElem?_eq_getElem hlt, h2⟩
  obtain ⟨d, hd, hDz⟩ := dpa_get' hA hz
  refine ⟨z, H, I.kept hk, rz, q z p hp ?_⟩
  have : ((x :: ys).map pd).getD i .none = d := by rw [List.getD_eq_getElem?_getD, hd]; rfl
  have e3 : (pd x :: ys.map pd).getD i .none = d := this
  rw [← ep, ← hm, e3]
  exact hDz
end
end Hz
set_option Elab.async false
set_option linter.all false
namespace Hz.Win
/-- the least number of which so many are x at least -/
def cl (x s : Int) : Int := -((-x) / s)
theorem cl_le {x s : Int} (s0 : 0 < s) : x ≤ cl x s * s := by
  unfold cl
  have := Int.ediv_mul_le (-x) (Int.ne_of_gt s0)
  rw [Int.neg_mul]
  omega
theorem cl_lt {x s : Int} (s0 : 0 < s) : cl x s * s < x + s := by
  unfold cl
  have := Int.lt_ediv_add_one_mul_self (-x) s0
  rw [Int.add_mul, Int.one_mul] at this
  rw [Int.neg_mul]
  omega
theorem mul_lt_cancel {a b s : Int} (s0 : 0 < s) (h : a * s < b * s) : a < b := by
  rcases Int.lt_or_le a b with c | c
  · exact c
  · have := Int.mul_le_mul_of_nonneg_right c (Int.le_of_lt s0)
    omega
theorem mul_uniq {a b s x : Int} (s0 : 0 < s) (h1 : x ≤ a * s) (h2 : a * s < x + s) (h3 : x ≤ b * s) (h4 : b * s < x + s) : a = b := by
  have c1 : a < b + 1 := mul_lt_cancel s0 (by rw [Int.add_mul, Int.one_mul]; omega)
  have c2 : b < a + 1 := mul_lt_cancel s0 (by rw [Int.add_mul, Int.one_mul]; omega)
  omega
theorem cl_uniq {a x s : Int} (s0 : 0 < s) (h1 : x ≤ a * s) (h2 : a * s < x + s) : cl x s = a := mul_uniq s0 (cl_le s0) (cl_lt s0) h1 h2
theorem mod_at {x M t : Int} (M0 : 0 < M) (h1 : t * M ≤ x) (h2 : x < t * M + M) : x % M = x - t * M ∧ x / M = t := by
  have a := Int.emod_add_mul_ediv x M
  have b := Int.emod_nonneg x (Int.ne_of_gt M0)
  have c := Int.emod_lt_of_pos x M0
  rw [Int.mul_comm] at a
  have e : x / M = t := by
    have c1 : x / M < t + 1 := mul_lt_cancel M0 (by rw [Int.add_mul, Int.one_mul]; omega)
    have c2 : t < x / M + 1 := mul_lt_cancel M0 (by rw [Int.add_mul, Int.one_mul]; omega)
    omega
  rw [e] at a
  exact ⟨by omega, e⟩
/-- n steps lead into the window -/
def Hit (s M h w : Int) (n : Nat) : Prop := h - w ≤ ((n : Int) * s) % M ∧ ((n : Int) * s) % M ≤ h
/-- n is the least such number -/
def First (s M h w : Int) (n : Nat) : Prop := Hit s M h w n ∧ ∀ m, m < n → ¬ Hit s M h w m
theorem first_uniq {s M h w : Int} {n m : Nat} (a : First s M h w n) (b : First s M h w m) : n = m := by
  rcases Nat.lt_trichotomy n m with c | c | c
  · exact absurd a.1 (b.2 n c)
  · exact c
  · exact absurd b.1 (a.2 m c)
theorem first_of {s M h w : Int} {n : Nat} (H : Hit s M h w n) : ∃ m, m ≤ n ∧ First s M h w m := by
  induction n using Nat.strongRecOn with
  | _ n ih =>
    by_cases c : ∃ m, m < n ∧ Hit s M h w m
    · obtain ⟨m, hm, h1⟩ := c
      obtain ⟨k, hk, h2⟩ := ih m hm h1
      exact ⟨k, by omega, h2⟩
    · exact ⟨n, Nat.le_refl _, H, fun m hm z => c ⟨m, hm, z⟩⟩
section
variable {s M h w : Int} (s0 : 0 < s) (sM : s < M) (w0 : 0 ≤ w) (wh : w < h) (hM : h < M)
include s0 sM w0 wh hM
/-- met ahead of around -/
theorem first_flat (r : h % s ≤ w) : ∃ n : Nat, (n : Int) = cl (h - w) s ∧ First s M h w n ∧ (n : Int) * s ≤ h := by
  have a := Int.emod_add_mul_ediv h s
  have b := Int.emod_nonneg h (Int.ne_of_gt s0)
  have c := Int.emod_lt_of_pos h s0
  rw [Int.mul_comm] at a
  have l1 := cl_le (x := h - w) s0
  have l2 := cl_lt (x := h - w) s0
  have l3 : cl (h - w) s ≤ h / s := by
    have : cl (h - w) s < h / s + 1 := mul_lt_cancel s0 (by rw [Int.add_mul, Int.one_mul]; omega)
    omega
  have l4 := Int.mul_le_mul_of_nonneg_right l3 (Int.le_of_lt s0)
  have p0 : 0 < cl (h - w) s := mul_lt_cancel s0 (by rw [Int.zero_mul]; omega)
  obtain ⟨n, hn⟩ : ∃ n : Nat, (n : Int) = cl (h - w) s := ⟨(cl (h - w) s).toNat, by omega⟩
  rw [← hn] at l1 l2 l4
  refine ⟨n, hn, ⟨?_, fun m hm z => ?_⟩, by omega⟩
  · unfold Hit
    rw [(mod_at (t := 0) (x := (n : Int) * s) (by omega) (by rw [Int.zero_mul]; omega) (by rw [Int.zero_mul]; omega)).1, Int.zero_mul]
    omega
  · have e1 : ((m : Int) + 1) * s ≤ (n : Int) * s := Int.mul_le_mul_of_nonneg_right (by omega) (Int.le_of_lt s0)
    rw [Int.add_mul, Int.one_mul] at e1
    have e2 : 0 ≤ (m : Int) * s := Int.mul_nonneg (by omega) (by omega)
    unfold Hit at z
    rw [(mod_at (t := 0) (x := (m : Int) * s) (by omega) (by rw [Int.zero_mul]; omega) (by rw [Int.zero_mul]; omega)).1, Int.zero_mul] at z
    omega
/-- no steps lead there ahead of around -/
theorem flat_no (r : w < h % s) {n : Nat} (l : (n : Int) * s < M) : ¬ Hit s M h w n := fun z => by
  have e2 : 0 ≤ (n : Int) * s := Int.mul_nonneg (by omega) (by omega)
  unfold Hit at z
  rw [(mod_at (t := 0) (x := (n : Int) * s) (by omega) (by rw [Int.zero_mul]; omega) (by rw [Int.zero_mul]; omega)).1, Int.zero_mul] at z
  have c := Int.emod_lt_of_pos h s0
  have := (mod_at (x := h) (M := s) (t := n) s0 (by omega) (by omega)).1
  omega
/-- so many times around: there's a number of steps -/
theorem up (r : w < h % s) {t : Nat} (l : ((t : Int) * M + h) % s ≤ w) : ∃ n : Nat, (n : Int) = cl ((t : Int) * M + h - w) s ∧ Hit s M h w n ∧ (t : Int) * M ≤ (n : Int) * s ∧ (n : Int) * s < (t : Int) * M + M := by
  have a := Int.emod_add_mul_ediv ((t : Int) * M + h) s
  have b := Int.emod_nonneg ((t : Int) * M + h) (Int.ne_of_gt s0)
  have c := Int.emod_lt_of_pos h s0
  have t0 : 0 ≤ (t : Int) * M := Int.mul_nonneg (by omega) (by omega)
  rw [Int.mul_comm s] at a
  have e : cl ((t : Int) * M + h - w) s = ((t : Int) * M + h) / s := cl_uniq s0 (by omega) (by omega)
  have p0 : 0 ≤ ((t : Int) * M + h) / s := Int.ediv_nonneg (by omega) (by omega)
  obtain ⟨n, hn⟩ : ∃ n : Nat, (n : Int) = ((t : Int) * M + h) / s := ⟨(((t : Int) * M + h) / s).toNat, by omega⟩
  rw [← hn] at a
  refine ⟨n, by rw [hn, e], ?_, by omega, by omega⟩
  unfold Hit
  rw [(mod_at (t := t) (x := (n : Int) * s) (by omega) (by omega) (by omega)).1]
  omega
/-- .. and how many times around are gone is told of the steps -/
theorem down (r : w < h % s) {n : Nat} (z : Hit s M h w n) : ∃ t : Nat, ((t : Int) * M + h) % s ≤ w ∧ (n : Int) = cl ((t : Int) * M + h - w) s ∧ (t : Int) * M ≤ (n : Int) * s ∧ (n : Int) * s < (t : Int) * M + M := by
  have n0 : 0 ≤ (n : Int) * s := Int.mul_nonneg (by omega) (by omega)
  have a := Int.emod_add_mul_ediv ((n : Int) * s) M
  have b := Int.emod_nonneg ((n : Int) * s) (show M ≠ 0 by omega)
  have c := Int.emod_lt_of_pos ((n : Int) * s) (show 0 < M by omega)
  have d := Int.emod_lt_of_pos h s0
  rw [Int.mul_comm M] at a
  have p0 : 0 ≤ ((n : Int) * s) / M := Int.ediv_nonneg n0 (by omega)
  obtain ⟨t, ht⟩ : ∃ t : Nat, (t : Int) = ((n : Int) * s) / M := ⟨(((n : Int) * s) / M).toNat, by omega⟩
  unfold Hit at z
  rw [← ht] at a
  have e := mod_at (x := (t : Int) * M + h) (M := s) (t := n) s0 (by omega) (by omega)
  refine ⟨t, by rw [e.1]; omega, (cl_uniq s0 (by omega) (by omega)).symm, by omega, by omega⟩
end
theorem mod2 {x s : Int} (a : 0 ≤ x) (b : x < 2 * s) : x % s = if x < s then x else x - s := by
  by_cases c : x < s
  · rw [if_pos c]
    exact Int.emod_eq_of_lt a c
  · rw [if_neg c, (mod_at (x := x) (M := s) (t := 1) (by omega) (by omega) (by omega)).1]
    omega
theorem mul_mod (t M s : Int) : (t * (M % s)) % s = (t * M) % s := by
  rw [Int.mul_emod t M, Int.mul_emod t (M % s), Int.emod_emod_of_dvd _ (Int.dvd_refl s)]
theorem neg_mod {x s : Int} (s0 : 0 < s) (c : Int) : (c * s - x) % s = if x % s = 0 then 0 else s - x % s := by
  have a := Int.emod_add_mul_ediv x s
  have b := Int.emod_nonneg x (Int.ne_of_gt s0)
  have d := Int.emod_lt_of_pos x s0
  rw [Int.mul_comm] at a
  by_cases z : x % s = 0
  · rw [if_pos z, (mod_at (x := c * s - x) (M := s) (t := c - x / s) s0 (by rw [Int.sub_mul]; omega) (by rw [Int.sub_mul]; omega)).1, Int.sub_mul]
    omega
  · rw [if_neg z, (mod_at (x := c * s - x) (M := s) (t := c - x / s - 1) s0 (by rw [Int.sub_mul, Int.sub_mul]; omega) (by rw [Int.sub_mul, Int.sub_mul]; omega)).1, Int.sub_mul, Int.sub_mul]
    omega
section
variable {s M h w : Int} (s0 : 0 < s) (w0 : 0 ≤ w) (r : w < h % s)
include s0 w0 r
/-- the smaller ring -/
theorem low1 (t : Nat) : Hit (M % s) s (s - h % s + w) w t ↔ ((t : Int) * M + h) % s ≤ w := by
  unfold Hit
  rw [mul_mod, Int.add_emod]
  have a := Int.emod_nonneg ((t : Int) * M) (Int.ne_of_gt s0)
  have b := Int.emod_lt_of_pos ((t : Int) * M) s0
  have c := Int.emod_lt_of_pos h s0
  have d := Int.emod_nonneg h (Int.ne_of_gt s0)
  rw [mod2 (x := ((t : Int) * M) % s + h % s) (by omega) (by omega)]
  split <;> omega
/-- .. seen from behind -/
theorem low2 (t : Nat) : Hit (s - M % s) s (h % s) w t ↔ ((t : Int) * M + h) % s ≤ w := by
  unfold Hit
  rw [Int.mul_sub, neg_mod s0, mul_mod, Int.add_emod]
  have a := Int.emod_nonneg ((t : Int) * M) (Int.ne_of_gt s0)
  have b := Int.emod_lt_of_pos ((t : Int) * M) s0
  have c := Int.emod_lt_of_pos h s0
  have d := Int.emod_nonneg h (Int.ne_of_gt s0)
  rw [mod2 (x := ((t : Int) * M) % s + h % s) (by omega) (by omega)]
  split <;> split <;> omega
end
/-- a ring: the step, around, where its windows end -/
structure Pb where
  s : Int
  M : Int
  hs : List Int
section
variable {ws : List Int} {p p' : Pb}
structure Wf (ws : List Int) (p : Pb) : Prop where
  s0 : 0 ≤ p.s
  sM : p.s < p.M
  len : p.hs.length = ws.length
  win : ∀ {j : Nat} {h w : Int}, p.hs[j]? = some h → ws[j]? = some w → 0 ≤ w ∧ w < h ∧ h < p.M
/-- n is the least number of steps that leads into the window of place j -/
def At (ws : List Int) (p : Pb) (n j : Nat) : Prop := ∃ h w, p.hs[j]? = some h ∧ ws[j]? = some w ∧ First p.s p.M h w n
/-- what is found: all places of the least number of steps, perhaps others -/
structure Good (ws : List Int) (p : Pb) (f : List (Nat × Nat)) : Prop where
  ne : f ≠ []
  at_ : ∀ {q : Nat × Nat}, q ∈ f → At ws p q.1 q.2
  all : ∀ {n j : Nat}, At ws p n j → (∀ q ∈ f, n ≤ q.1) → (n, j) ∈ f
/-- p' is the smaller ring of p -/
structure Low (ws : List Int) (p p' : Pb) : Prop where
  wf : Wf ws p
  pos : 0 < p.s
  no : ∀ {j : Nat} {h w : Int}, p.hs[j]? = some h → ws[j]? = some w → w < h % p.s
  wf' : Wf ws p'
  around : p'.M = p.s
  hit : ∀ {j : Nat} {h w h' : Int}, p.hs[j]? = some h → ws[j]? = some w → p'.hs[j]? = some h' → ∀ t, Hit p'.s p'.M h' w t ↔ ((t : Int) * p.M + h) % p.s ≤ w
theorem Wf.other (f : Wf ws p) (f' : Wf ws p') {j : Nat} {h : Int} (e : p.hs[j]? = some h) : ∃ h', p'.hs[j]? = some h' := by
  obtain ⟨l, _⟩ := List.getElem?_eq_some_iff.mp e
  exact ⟨_, List.getElem?_eq_getElem (by have := f.len; have := f'.len; omega)⟩
theorem Low.at_up (L : Low ws p p') {t j : Nat} (a : At ws p' t j) : ∃ h w n, p.hs[j]? = some h ∧ ws[j]? = some w ∧ (n : Nat) = cl ((t : Int) * p.M + h - w) p.s ∧ At ws p n j ∧ (t : Int) * p.M ≤ (n : Int) * p.s ∧ (n : Int) * p.s < (t : Int) * p.M + p.M := by
  obtain ⟨h', w, e', ew, F⟩ := a
  obtain ⟨h, e⟩ := L.wf'.other L.wf e'
  obtain ⟨w0, wh, hM⟩ := L.wf.win e ew
  have r := L.no e ew
  obtain ⟨n, hn, H, b1, b2⟩ := up L.pos L.wf.sM w0 wh hM r ((L.hit e ew e' t).mp F.1)
  refine ⟨h, w, n, e, ew, hn, ⟨h, w, e, ew, H, fun m hm z => ?_⟩, b1, b2⟩
  obtain ⟨t2, l2, hm2, c1, c2⟩ := down L.pos L.wf.sM w0 wh hM r z
  have M0 : 0 < p.M := by have := L.wf.sM; have := L.wf.s0; omega
  have mn : ((m : Int) + 1) * p.s ≤ (n : Int) * p.s := Int.mul_le_mul_of_nonneg_right (by omega) L.wf.s0
  rw [Int.add_mul, Int.one_mul] at mn
  have : (t2 : Int) < t + 1 := mul_lt_cancel M0 (by rw [Int.add_mul, Int.one_mul]; have := L.pos; omega)
  by_cases c : t2 < t
  · exact F.2 t2 c ((L.hit e ew e' t2).mpr l2)
  · have : t2 = t := by omega
    subst this
    have := L.pos
    omega
theorem Low.at_down (L : Low ws p p') {n j : Nat} (a : At ws p n j) : ∃ t h w, At ws p' t j ∧ p.hs[j]? = some h ∧ ws[j]? = some w ∧ (n : Int) = cl ((t : Int) * p.M + h - w) p.s ∧ (t : Int) * p.M ≤ (n : Int) * p.s ∧ (n : Int) * p.s < (t : Int) * p.M + p.M := by
  obtain ⟨h, w, e, ew, F⟩ := a
  obtain ⟨h', e'⟩ := L.wf.other L.wf' e
  obtain ⟨w0, wh, hM⟩ := L.wf.win e ew
  have r := L.no e ew
  obtain ⟨t, l, hn, b1, b2⟩ := down L.pos L.wf.sM w0 wh hM r F.1
  refine ⟨t, h, w, ⟨h', w, e', ew, (L.hit e ew e' t).mpr l, fun t2 ht z => ?_⟩, e, ew, hn, b1, b2⟩
  obtain ⟨m, hm, H, c1, c2⟩ := up L.pos L.wf.sM w0 wh hM r ((L.hit e ew e' t2).mp z)
  refine F.2 m ?_ H
  have : ((t2 : Int) + 1) * p.M ≤ (t : Int) * p.M := Int.mul_le_mul_of_nonneg_right (by omega) (by have := L.wf.sM; have := L.wf.s0; omega)
  rw [Int.add_mul, Int.one_mul] at this
  have : (m : Int) < n := mul_lt_cancel L.pos (by omega)
  omega
/-- from the smaller ring back -/
def back (ws : List Int) (p : Pb) (m : Nat) (f : List (Nat × Nat)) : List (Nat × Nat) :=
  (f.filter fun q => decide (q.1 = m)).map fun q => ((cl ((q.1 : Int) * p.M + p.hs[q.2]?.getD 0 - ws[q.2]?.getD 0) p.s).toNat, q.2)
theorem Low.good (L : Low ws p p') {f : List (Nat × Nat)} (g : Good ws p' f) {q0 : Nat × Nat} (h0 : q0 ∈ f) (hm : ∀ q ∈ f, q0.1 ≤ q.1) : Good ws p (back ws p q0.1 f) := by
  have mem : ∀ q, q ∈ back ws p q0.1 f → ∃ t, (q0.1 = t) ∧ (t, q.2) ∈ f ∧ (q.1 : Int) = cl ((t : Int) * p.M + p.hs[q.2]?.getD 0 - ws[q.2]?.getD 0) p.s ∧ At ws p q.1 q.2 ∧ (q.1 : Int) * p.s < (t : Int) * p.M + p.M := fun q hq => by
    obtain ⟨⟨t, j⟩, hr, rfl⟩ := List.mem_map.mp hq
    obtain ⟨hr1, hr2⟩ := List.mem_filter.mp hr
    have et : t = q0.1 := of_decide_eq_true hr2
    obtain ⟨h, w, n, e, ew, hn, A, b1, b2⟩ := L.at_up (t := t) (j := j) (g.at_ hr1)
    refine ⟨t, et.symm, hr1, ?_, ?_, ?_⟩
    · show (((cl _ _).toNat : Nat) : Int) = _
      rw [e, ew]
      show (((cl ((t : Int) * p.M + h - w) p.s).toNat : Nat) : Int) = cl ((t : Int) * p.M + h - w) p.s
      omega
    · show At ws p ((cl _ _).toNat) j
      rw [e, ew]
      show At ws p ((cl ((t : Int) * p.M + h - w) p.s).toNat) j
      rw [show (cl ((t : Int) * p.M + h - w) p.s).toNat = n by omega]
      exact A
    · show (((cl _ _).toNat : Nat) : Int) * p.s < _
      rw [e, ew]
      show (((cl ((t : Int) * p.M + h - w) p.s).toNat : Nat) : Int) * p.s < _
      rw [show (cl ((t : Int) * p.M + h - w) p.s).toNat = n by omega]
      exact b2
  have put : ∀ {t j : Nat} {h w : Int} {n : Nat}, (t, j) ∈ f → t = q0.1 → p.hs[j]? = some h → ws[j]? = some w → (n : Int) = cl ((t : Int) * p.M + h - w) p.s → (n, j) ∈ back ws p q0.1 f := fun {t j h w n} hm1 et e ew hn => by
    refine List.mem_map.mpr ⟨(t, j), List.mem_filter.mpr ⟨hm1, decide_eq_true et⟩, ?_⟩
    show ((cl ((t : Int) * p.M + p.hs[j]?.getD 0 - ws[j]?.getD 0) p.s).toNat, j) = _
    rw [e, ew]
    show ((cl ((t : Int) * p.M + h - w) p.s).toNat, j) = _
    rw [← hn]
    rfl
  obtain ⟨h, w, n0, e, ew, hn0, A0, b1, b2⟩ := L.at_up (g.at_ h0)
  have in0 := put (t := q0.1) (j := q0.2) h0 rfl e ew hn0
  have M0 : 0 < p.M := by have := L.wf.sM; have := L.wf.s0; omega
  refine ⟨fun z => (by rw [z] at in0; cases in0), fun {q} hq => ?_, fun {n j} a l => ?_⟩
  · obtain ⟨t, _, _, _, A, _⟩ := mem q hq
    exact A
  · obtain ⟨t, h, w, A, e, ew, hn, c1, c2⟩ := L.at_down a
    have l0 : (n : Int) ≤ n0 := by exact_mod_cast l _ in0
    have l1 : (n : Int) * p.s ≤ (n0 : Int) * p.s := Int.mul_le_mul_of_nonneg_right l0 L.wf.s0
    have lt : (t : Int) < (q0.1 : Int) + 1 := mul_lt_cancel M0 (by rw [Int.add_mul, Int.one_mul]; omega)
    have in1 := g.all A fun q hq => by have := hm q hq; omega
    have : q0.1 ≤ t := hm _ in1
    exact put in1 (by omega) e ew hn
theorem Low.none (L : Low ws p p') (z : ∀ n j, ¬ At ws p' n j) : ∀ n j, ¬ At ws p n j := fun n j a => by
  obtain ⟨t, _, _, A, _⟩ := L.at_down a
  exact z t j A
theorem Low.of1 (f : Wf ws p) (pos : 0 < p.s) (no : ∀ {j : Nat} {h w : Int}, p.hs[j]? = some h → ws[j]? = some w → w < h % p.s) {hs' : List Int} (el : hs'.length = ws.length)
    (e : ∀ {j : Nat} {h w h' : Int}, p.hs[j]? = some h → ws[j]? = some w → hs'[j]? = some h' → h' = p.s - h % p.s + w) : Low ws p ⟨p.M % p.s, p.s, hs'⟩ where
  wf := f
  pos := pos
  no := no
  wf' := ⟨Int.emod_nonneg _ (Int.ne_of_gt pos), Int.emod_lt_of_pos _ pos, el, fun {j h' w} e' ew => by
    have e' : hs'[j]? = some h' := e'
    obtain ⟨h, eh⟩ : ∃ h, p.hs[j]? = some h := by
      obtain ⟨l, _⟩ := List.getElem?_eq_some_iff.mp ew
      exact ⟨_, List.getElem?_eq_getElem (by have := f.len; omega)⟩
    have := e eh ew e'
    have := no eh ew
    have := f.win eh ew
    have := Int.emod_lt_of_pos h pos
    show 0 ≤ w ∧ w < h' ∧ h' < p.s
    omega⟩
  around := rfl
  hit := fun {j h w h'} eh ew e' t => by
    cases e eh ew e'
    exact low1 pos (f.win eh ew).1 (no eh ew) t
theorem Low.of2 (f : Wf ws p) (pos : 0 < p.s) (no : ∀ {j : Nat} {h w : Int}, p.hs[j]? = some h → ws[j]? = some w → w < h % p.s) (m0 : 0 < p.M % p.s) {hs' : List Int} (el : hs'.length = ws.length)
    (e : ∀ {j : Nat} {h w h' : Int}, p.hs[j]? = some h → ws[j]? = some w → hs'[j]? = some h' → h' = h % p.s) : Low ws p ⟨p.s - p.M % p.s, p.s, hs'⟩ where
  wf := f
  pos := pos
  no := no
  wf' := ⟨by show 0 ≤ p.s - p.M % p.s; have := Int.emod_lt_of_pos p.M pos; omega, by show p.s - p.M % p.s < p.s; omega, el, fun {j h' w} e' ew => by
    have e' : hs'[j]? = some h' := e'
    obtain ⟨h, eh⟩ : ∃ h, p.hs[j]? = some h := by
      obtain ⟨l, _⟩ := List.getElem?_eq_some_iff.mp ew
      exact ⟨_, List.getElem?_eq_getElem (by have := f.len; omega)⟩
    have := e eh ew e'
    have := no eh ew
    have := f.win eh ew
    have := Int.emod_lt_of_pos h pos
    show 0 ≤ w ∧ w < h' ∧ h' < p.s
    omega⟩
  around := rfl
  hit := fun {j h w h'} eh ew e' t => by
    cases e eh ew e'
    exact low2 pos (f.win eh ew).1 (no eh ew) t
/-- what is found in a ring with windows met ahead of around -/
theorem good_flat (f : Wf ws p) (pos : 0 < p.s) {ps : List Nat} (ne : ps ≠ []) (mem : ∀ j, j ∈ ps ↔ ∃ h w, p.hs[j]? = some h ∧ ws[j]? = some w ∧ h % p.s ≤ w) :
    Good ws p (ps.map fun j => ((cl (p.hs[j]?.getD 0 - ws[j]?.getD 0) p.s).toNat, j)) := by
  have put : ∀ j, j ∈ ps → ∃ h w n, p.hs[j]? = some h ∧ ws[j]? = some w ∧ (n : Nat) = cl (h - w) p.s ∧ First p.s p.M h w n ∧ (n : Int) * p.s ≤ h ∧ (n, j) ∈ ps.map fun j => ((cl (p.hs[j]?.getD 0 - ws[j]?.getD 0) p.s).toNat, j) := fun j hj => by
    obtain ⟨h, w, e, ew, r⟩ := (mem j).mp hj
    obtain ⟨w0, wh, hM⟩ := f.win e ew
    obtain ⟨n, hn, F, l⟩ := first_flat pos f.sM w0 wh hM r
    refine ⟨h, w, n, e, ew, hn, F, l, List.mem_map.mpr ⟨j, hj, ?_⟩⟩
    rw [e, ew]
    show ((cl (h - w) p.s).toNat, j) = _
    rw [← hn]
    rfl
  refine ⟨fun z => ne (List.map_eq_nil_iff.mp z), fun {q} hq => ?_, fun {n j} a l => ?_⟩
  · obtain ⟨j, hj, rfl⟩ := List.mem_map.mp hq
    obtain ⟨h, w, n, e, ew, hn, F, _, _⟩ := put j hj
    refine ⟨h, w, e, ew, ?_⟩
    show First p.s p.M h w ((cl (p.hs[j]?.getD 0 - ws[j]?.getD 0) p.s).toNat)
    rw [e, ew]
    show First p.s p.M h w ((cl (h - w) p.s).toNat)
    rw [show (cl (h - w) p.s).toNat = n by omega]
    exact F
  · obtain ⟨h, w, e, ew, F⟩ := a
    obtain ⟨w0, wh, hM⟩ := f.win e ew
    by_cases c : j ∈ ps
    · obtain ⟨h1, w1, n1, e1, ew1, hn1, F1, _, m1⟩ := put j c
      rw [e] at e1
      rw [ew] at ew1
      cases e1
      cases ew1
      rw [first_uniq F F1]
      exact m1
    · exfalso
      obtain ⟨j0, hj0⟩ := List.exists_mem_of_ne_nil _ ne
      obtain ⟨h1, w1, n1, e1, ew1, hn1, F1, l1, m1⟩ := put j0 hj0
      have l2 : (n : Int) ≤ n1 := by exact_mod_cast l _ m1
      have l3 : (n : Int) * p.s ≤ (n1 : Int) * p.s := Int.mul_le_mul_of_nonneg_right l2 f.s0
      have := f.win e1 ew1
      refine flat_no pos f.sM w0 wh hM (Int.lt_of_not_ge fun r => c ((mem j).mpr ⟨h, w, e, ew, r⟩)) (by omega) F.1
theorem none_zero (f : Wf ws p) (z : p.s = 0) : ∀ n j, ¬ At ws p n j := fun n j a => by
  obtain ⟨h, w, e, ew, F⟩ := a
  obtain ⟨w0, wh, hM⟩ := f.win e ew
  have := F.1
  unfold Hit at this
  rw [z, Int.mul_zero, Int.zero_emod] at this
  omega
end
end Hz.Win
set_option Elab.async false
set_option linter.all false
set_option maxRecDepth 100000
namespace Hz
open PySem PyProof.Rows L2
variable {K : PySem.W.Frag}
section
variable {g : TG} {tt : TT} {te : TE} {vs : List Nat} {σ : L2.St} {H : Hp}
/-- a comprehension over enumerate(list), with a test -/
theorem z_lcE {xs : List V} {ta : TA} {Q : VK} (hta : ∀ R : List V → Hp → Prop, (∀ a H1, Ex [] H H1 → SqL K H1 a xs → R [.ref a] H1) → ta σ H R) (hn : xs.length < 100000) (p : Nat → Bool) (f : Nat → V)
    (turn : ∀ (i : Nat) x T H', xs[i]? = some x → Ex [] H H' → H' T = some (.tup [.int (i : Nat), x]) → ∀ (N : VK) (M : Hp → Prop), (p i = true → ∀ H3, Ex [] H' H3 → N (f i) H3) → (p i = false → ∀ H3, Ex [] H' H3 → M H3) →
      g (.ref T) (wipe σ vs) H' fun σ2 H2 => wipe σ2 vs = wipe σ vs ∧ tt σ2 H2 fun b H3 => if b = true then te σ2 H3 N else M H3)
    (fin : ∀ D H', H D = none → H' D = some (.lst (((List.range xs.length).filter p).map f)) → Ex [] H H' → Q (.ref D) H') : tLc (iEnum K ta) g tt te vs σ H Q := by
  refine hta _ fun a H1 x1 hS => ⟨a, xs, rfl, hS, fun D hD => lc_it (walk_enum (K := K) (a := a) (xs := xs)) (LcF H1 D p f) ⟨Ex.new hD, upd_same⟩ (fun i H' _ P => le_l P.1.le0 hS) (fun i x H' H'' hi P y => ?_) (fun H' P => fin D H' (x1.free hD) P.2 (x1.trans P.1))⟩
  obtain ⟨T, u, z, rfl, hT, rfl, e1, e2⟩ := y
  cases e1
  have y1 := Ex.new (B := []) (o := HO.tup [.int (i : Nat), z]) hT
  exact lcF_next (g := g) (tt := tt) (te := te) (vs := vs) (σ := σ) hD (by omega) ⟨P.1.trans y1, y1.get (by simp) P.2⟩ (turn i z T _ e2 (x1.trans (P.1.trans y1)) upd_same)
end
theorem range_bind {α β : Type} (l : List α) (h : α → Option β) : (List.range l.length).filterMap (fun i => (l[i]?).bind h) = l.filterMap h := by
  have e : (List.range l.length).filterMap (fun i => l[i]?) = l := by
    have h : ∀ n, n ≤ l.length → (List.range n).filterMap (fun i => l[i]?) = l.take n := fun n => by
      induction n with
      | zero => intro _; simp
      | succ n ih =>
        intro hn
        rw [List.range_succ, List.filterMap_append, ih (by omega), List.take_add_one]
        congr 1
    rw [h _ (Nat.le_refl _), List.take_length]
  conv => rhs; rw [← e]
  rw [List.filterMap_filterMap]
/-! ### rings of windows, as the heap holds them -/
namespace Win
/-- a ring behind another -/
inductive Ch (ws : List Int) (o : Pb) : List Pb → Pb → Prop
  | nil : Ch ws o [] o
  | snoc {gs : List Pb} {g g' : Pb} : Ch ws o gs g → Low ws g g' → Ch ws o (gs ++ [g]) g'
theorem Ch.zero {ws : List Int} {o g : Pb} (c : Ch ws o [] g) : g = o := by
  generalize e : ([] : List Pb) = l at c
  cases c with
  | nil => rfl
  | snoc _ _ => exact absurd e.symm (by simp)
theorem Ch.last {ws : List Int} {o g' : Pb} {gs : List Pb} (c : Ch ws o gs g') (h : 0 < gs.length) : ∃ gs1 g, gs = gs1 ++ [g] ∧ Ch ws o gs1 g ∧ Low ws g g' := by
  cases c with
  | nil => exact absurd h (by simp)
  | snoc c l => exact ⟨_, _, rfl, c, l⟩
theorem Ch.none {ws : List Int} {o : Pb} : ∀ {gs : List Pb} {g : Pb}, Ch ws o gs g → (∀ n j, ¬ At ws g n j) → ∀ n j, ¬ At ws o n j
  | _, _, .nil, z => z
  | _, _, .snoc c l, z => c.none (l.none z)
theorem first_lt {s M h w : Int} {n : Nat} (M0 : 0 < M) (F : First s M h w n) : (n : Int) < M := by
  rcases Int.lt_or_le (n : Int) M with c | c
  · exact c
  · exfalso
    obtain ⟨m, hm⟩ : ∃ m : Nat, (m : Int) = n - M := ⟨((n : Int) - M).toNat, by omega⟩
    refine F.2 m (by omega) ?_
    have : ((m : Int) * s) % M = ((n : Int) * s) % M := by
      rw [hm, Int.sub_mul, Int.sub_mul_emod_self_left]
    unfold Hit
    rw [this]
    exact F.1
/-- the least pair -/
def LAt (ws : List Int) (p : Pb) (n j : Nat) : Prop := At ws p n j ∧ ∀ n' j', At ws p n' j' → n < n' ∨ n = n' ∧ j ≤ j'
def cst (q : Nat × Nat) : Int × Int := (q.1, q.2)
theorem least_at {ws : List Int} {p : Pb} {f : List (Nat × Nat)} (g : Good ws p f) {q : Int × Int} (l : Least (f.map cst) q) : ∃ n j : Nat, q = ((n : Int), (j : Int)) ∧ (n, j) ∈ f ∧ LAt ws p n j := by
  obtain ⟨h1, h2⟩ := l
  obtain ⟨⟨n, j⟩, hm, rfl⟩ := List.mem_map.mp h1
  have le : ∀ r ∈ f, n < r.1 ∨ n = r.1 ∧ j ≤ r.2 := fun r hr => by
    have := h2 _ (List.mem_map.mpr ⟨r, hr, rfl⟩)
    unfold PLt cst at this
    simp only at this
    omega
  refine ⟨n, j, rfl, hm, g.at_ hm, fun n' j' a => ?_⟩
  by_cases c : n < n'
  · exact .inl c
  · have in1 := g.all a fun r hr => by
      have := le r hr
      omega
    have := le _ in1
    simp only at this
    omega
def ringD (p : Pb) : PyData := .tuple [.int p.s, .int p.M, .list (p.hs.map PyData.int)]
end Win
end Hz
set_option linter.all false
namespace Hz
/-! ### windows: which steps around a ring lead into a lot of numbers -/
def Inw (s A l h : Int) (n : Nat) : Prop := l ≤ (n * s) % A ∧ (n * s) % A ≤ h
def Fst (s A l h : Int) : Option Nat → Prop
  | none => ∀ n : Nat, ¬ Inw s A l h n
  | some n => Inw s A l h n ∧ ∀ k : Nat, k < n → ¬ Inw s A l h k
def ceilD (a s : Int) : Int := -(-a / s)
theorem emod_of {x s q r : Int} (h : x = q * s + r) (h0 : 0 ≤ r) (h1 : r < s) : x % s = r := by
  rw [h, Int.add_comm, Int.add_mul_emod_self_right]
  exact Int.emod_eq_of_lt h0 h1
theorem ediv_of {x s q r : Int} (h : x = q * s + r) (h0 : 0 ≤ r) (h1 : r < s) : x / s = q := by
  rw [h, Int.add_comm, Int.add_mul_ediv_right _ _ (by omega), Int.ediv_eq_zero_of_lt h0 h1]
  omega
theorem ceil_of {a s n : Int} (h0 : (n - 1) * s < a) (h1 : a ≤ n * s) : ceilD a s = n := by
  have e : (n - 1) * s = n * s - s := by rw [Int.sub_mul, Int.one_mul]
  unfold ceilD
  rw [ediv_of (x := -a) (s := s) (q := -n) (r := n * s - a) (by rw [Int.neg_mul]; omega) (by omega) (by omega)]
  omega
theorem ceil_le {a b s : Int} (hs : 0 < s) (h : a ≤ b) : ceilD a s ≤ ceilD b s := by
  have := Int.ediv_le_ediv hs (show -b ≤ -a by omega)
  unfold ceilD
  omega
/-- what the windows' ring shrinks to -/
structure Wd (s A l h : Int) : Prop where
  s0 : 0 < s
  sA : s < A
  l0 : 0 < l
  lh : l ≤ h
  hA : h < A
  no : h / s * s < l
theorem Wd.block {s A l h : Int} (w : Wd s A l h) : ∃ q, q = h / s ∧ q * s < l ∧ h < q * s + s := by
  refine ⟨h / s, rfl, w.no, ?_⟩
  have := Int.emod_lt_of_pos h w.s0
  have e := Int.mul_ediv_add_emod h s
  rw [Int.mul_comm] at e
  omega
theorem Wd.negmod {s A l h : Int} (w : Wd s A l h) {q x : Int} (h1 : q * s < l) (h2 : h < q * s + s) (hx : l ≤ x) (hy : x ≤ h) : (-x) % s = q * s + s - x := by
  refine emod_of (q := -(q + 1)) ?_ (by omega) (by omega)
  rw [Int.neg_mul, Int.add_mul, Int.one_mul]
  omega
/-- the lesser ring's own bounds -/
theorem Wd.less {s A l h : Int} (w : Wd s A l h) : 0 ≤ A % s ∧ A % s < s ∧ 0 < -h % s ∧ -h % s ≤ -l % s ∧ -l % s < s := by
  obtain ⟨q, _, h1, h2⟩ := w.block
  have := w.lh
  have e1 := w.negmod h1 h2 w.lh (Int.le_refl _)
  have e2 := w.negmod h1 h2 (Int.le_refl _) w.lh
  refine ⟨Int.emod_nonneg _ (by have := w.s0; omega), Int.emod_lt_of_pos _ w.s0, by omega, by omega, by omega⟩
theorem Wd.ceil {s A l h x m : Int} {n : Nat} (w : Wd s A l h) (e : n * s = m * A + x) (h1 : l ≤ x) (h2 : x ≤ h) : ceilD (m * A + l) s = n := by
  obtain ⟨q, _, q1, q2⟩ := w.block
  refine ceil_of ?_ (by omega)
  rw [Int.sub_mul, Int.one_mul]
  omega
theorem Wd.to {s A l h : Int} (w : Wd s A l h) {n : Nat} (i : Inw s A l h n) : ∃ m : Nat, Inw (A % s) s (-h % s) (-l % s) m ∧ ceilD (m * A + l) s = n := by
  obtain ⟨q, _, q1, q2⟩ := w.block
  have hA : 0 < A := by have := w.s0; have := w.sA; omega
  have hn : 0 ≤ (n : Int) * s := Int.mul_nonneg (by omega) (by have := w.s0; omega)
  have e := Int.mul_ediv_add_emod ((n : Int) * s) A
  have d0 : 0 ≤ (n : Int) * s / A := Int.ediv_nonneg hn (by omega)
  obtain ⟨i1, i2⟩ := i
  generalize ((n : Int) * s) % A = x at e i1 i2
  obtain ⟨m, hm⟩ := Int.eq_ofNat_of_zero_le d0
  rw [hm, Int.mul_comm] at e
  refine ⟨m, ?_, w.ceil e.symm i1 i2⟩
  have ex := w.negmod q1 q2 i1 i2
  have eh := w.negmod q1 q2 w.lh (Int.le_refl _)
  have el := w.negmod q1 q2 (Int.le_refl _) w.lh
  have key : ((m : Int) * (A % s)) % s = (-x) % s := by
    rw [Int.mul_emod, Int.emod_emod, ← Int.mul_emod]
    have : (m : Int) * A = -x + n * s := by omega
    rw [this, Int.add_mul_emod_self_right]
  unfold Inw
  rw [key]
  omega
theorem Wd.from {s A l h : Int} (w : Wd s A l h) {m : Nat} (i : Inw (A % s) s (-h % s) (-l % s) m) : ∃ n : Nat, ceilD (m * A + l) s = n ∧ Inw s A l h n := by
  obtain ⟨q, _, q1, q2⟩ := w.block
  have hA : 0 < A := by have := w.s0; have := w.sA; omega
  have key : ((m : Int) * (A % s)) % s = ((m : Int) * A) % s := by
    rw [Int.mul_emod, Int.emod_emod, ← Int.mul_emod]
  have eh := w.negmod q1 q2 w.lh (Int.le_refl _)
  have el := w.negmod q1 q2 (Int.le_refl _) w.lh
  unfold Inw at i
  rw [key, eh, el] at i
  have e := Int.mul_ediv_add_emod ((m : Int) * A) s
  generalize ((m : Int) * A) % s = y at e i
  have hd : 0 ≤ (m : Int) * A / s := Int.ediv_nonneg (Int.mul_nonneg (by omega) (by omega)) (by have := w.s0; omega)
  have hq : -1 ≤ q := by
    have h1 := w.l0
    have h2 := w.lh
    by_cases c : q + 1 < 0
    · have : (q + 1) * s ≤ 0 := Int.mul_nonpos_of_nonpos_of_nonneg (by omega) (by have := w.s0; omega)
      rw [Int.add_mul, Int.one_mul] at this
      omega
    · omega
  obtain ⟨n, hn⟩ := Int.eq_ofNat_of_zero_le (show 0 ≤ (m : Int) * A / s + q + 1 by omega)
  have en : (n : Int) * s = m * A + (q * s + s - y) := by
    have : (n : Int) = (m : Int) * A / s + q + 1 := hn.symm
    rw [this, Int.add_mul, Int.add_mul, Int.one_mul, Int.mul_comm (_ / _) s]
    omega
  refine ⟨n, w.ceil en (by omega) (by omega), ?_⟩
  have := w.l0
  have := w.hA
  have ex : ((n : Int) * s) % A = q * s + s - y := emod_of en (by omega) (by omega)
  unfold Inw
  rw [ex]
  omega
/-- what of the lesser ring is known is known of the ring -/
theorem Wd.some {s A l h : Int} (w : Wd s A l h) {m : Nat} (f : Fst (A % s) s (-h % s) (-l % s) (some m)) : ∃ n : Nat, ceilD (m * A + l) s = n ∧ Fst s A l h (some n) := by
  obtain ⟨n, hn, i⟩ := w.from f.1
  refine ⟨n, hn, i, fun k hk ik => ?_⟩
  obtain ⟨j, ij, ej⟩ := w.to ik
  by_cases c : j < m
  · exact f.2 j c ij
  · have : (m : Int) * A ≤ j * A := Int.mul_le_mul_of_nonneg_right (by omega) (by have := w.s0; have := w.sA; omega)
    have := ceil_le w.s0 (show (m : Int) * A + l ≤ j * A + l by omega)
    omega
theorem Wd.none {s A l h : Int} (w : Wd s A l h) (f : Fst (A % s) s (-h % s) (-l % s) none) : Fst s A l h none := fun n i => by
  obtain ⟨m, im, _⟩ := w.to i
  exact f m im
theorem fst_zero {A l h : Int} (h0 : 0 < l) : Fst 0 A l h none := fun n i => by
  obtain ⟨i1, _⟩ := i
  rw [Int.mul_zero, Int.zero_emod] at i1
  omega
theorem fst_flat {s A l h : Int} (s0 : 0 < s) (l0 : 0 < l) (lh : l ≤ h) (hA : h < A) (c : l ≤ h / s * s) : ∃ n : Nat, ceilD l s = n ∧ Fst s A l h (some n) := by
  have e := Int.mul_ediv_add_emod l s
  have e1 := Int.emod_nonneg l (show s ≠ 0 by omega)
  have e2 := Int.emod_lt_of_pos l s0
  have eh := Int.mul_ediv_add_emod h s
  have eh1 := Int.emod_nonneg h (show s ≠ 0 by omega)
  rw [Int.mul_comm] at e eh
  have d0 : 0 ≤ l / s := Int.ediv_nonneg (by omega) (by omega)
  -- the least n with l ≤ n s
  obtain ⟨n, n1, n2, n3⟩ : ∃ n : Nat, ((n : Int) - 1) * s < l ∧ l ≤ n * s ∧ (n : Int) * s ≤ h := by
    by_cases z : l % s = 0
    · obtain ⟨n, hn⟩ := Int.eq_ofNat_of_zero_le d0
      refine ⟨n, ?_, ?_, ?_⟩ <;> (have hn' : (n : Int) = l / s := hn.symm) <;> rw [hn'] <;> (try rw [Int.sub_mul, Int.one_mul]) <;> omega
    · obtain ⟨n, hn⟩ := Int.eq_ofNat_of_zero_le (show 0 ≤ l / s + 1 by omega)
      have hn' : (n : Int) = l / s + 1 := hn.symm
      have lt : l / s < h / s := by
        refine Int.not_le.mp fun g => ?_
        have := Int.mul_le_mul_of_nonneg_right g (show 0 ≤ s by omega)
        omega
      have := Int.mul_le_mul_of_nonneg_right (show l / s + 1 ≤ h / s by omega) (show 0 ≤ s by omega)
      rw [Int.add_mul, Int.one_mul] at this
      refine ⟨n, ?_, ?_, ?_⟩ <;> rw [hn']
      · rw [Int.add_sub_cancel]; omega
      · rw [Int.add_mul, Int.one_mul]; omega
      · rw [Int.add_mul, Int.one_mul]; omega
  refine ⟨n, ceil_of n1 n2, ?_, fun k hk i => ?_⟩
  · unfold Inw
    rw [Int.emod_eq_of_lt (by omega) (by omega)]
    omega
  · have : (k : Int) * s ≤ ((n : Int) - 1) * s := Int.mul_le_mul_of_nonneg_right (by omega) (by omega)
    have k0 : 0 ≤ (k : Int) * s := Int.mul_nonneg (by omega) (by omega)
    have i1 := i.1
    rw [Int.emod_eq_of_lt k0 (by omega)] at i1
    omega
/-! ### from any begin on -/
def Inb (b st A l h : Int) (n : Nat) : Prop := l ≤ (b + n * st) % A ∧ (b + n * st) % A ≤ h
def Fsb (b st A l h : Int) : Option Nat → Prop
  | none => ∀ n : Nat, ¬ Inb b st A l h n
  | some n => Inb b st A l h n ∧ ∀ k : Nat, k < n → ¬ Inb b st A l h k
theorem fsb_uniq {b st A l h : Int} : ∀ {x y : Option Nat}, Fsb b st A l h x → Fsb b st A l h y → x = y
  | none, none, _, _ => rfl
  | none, some m, f, g => absurd g.1 (f m)
  | some n, none, f, g => absurd f.1 (g n)
  | some n, some m, f, g => by
    rcases Nat.lt_trichotomy n m with c | c | c
    · exact absurd f.1 (g.2 n c)
    · rw [c]
    · exact absurd g.1 (f.2 m c)
theorem inb_iff {b st A l h : Int} (A0 : 0 < A) (l0 : 0 ≤ l) (lh : l ≤ h) (hA : h < A) (c0 : (l - b) % A ≠ 0) (c1 : (l - b) % A + h - l < A) (n : Nat) : Inb b st A l h n ↔ Inw (st % A) A ((l - b) % A) ((l - b) % A + h - l) n := by
  have a0 := Int.emod_nonneg (l - b) (show A ≠ 0 by omega)
  have a1 := Int.emod_lt_of_pos (l - b) A0
  have e := Int.mul_ediv_add_emod (l - b) A
  rw [Int.mul_comm] at e
  have z0 := Int.emod_nonneg ((n : Int) * (st % A)) (show A ≠ 0 by omega)
  have z1 := Int.emod_lt_of_pos ((n : Int) * (st % A)) A0
  have key : ((n : Int) * (st % A)) % A = ((n : Int) * st) % A := by
    rw [Int.mul_emod, Int.emod_emod, ← Int.mul_emod]
  have ez := Int.mul_ediv_add_emod ((n : Int) * st) A
  rw [Int.mul_comm A] at ez
  unfold Inb Inw
  rw [key] at z0 z1 ⊢
  generalize ((n : Int) * st) % A = z at *
  generalize ((n : Int) * st) / A = k at *
  generalize (l - b) % A = a at *
  generalize (l - b) / A = j at *
  have eb : b + n * st = (k - j) * A + (l - a + z) := by rw [Int.sub_mul]; omega
  rcases Int.lt_or_le z a with c | c
  · rcases Int.lt_or_le (l - a + z) 0 with d | d
    · rw [emod_of (q := k - j - 1) (r := l - a + z + A) (by rw [eb, Int.sub_mul (k - j), Int.one_mul]; omega) (by omega) (by omega)]
      omega
    · rw [emod_of (q := k - j) (r := l - a + z) eb d (by omega)]
      omega
  · rcases Int.lt_or_le (l - a + z) A with d | d
    · rw [emod_of (q := k - j) (r := l - a + z) eb (by omega) d]
      omega
    · rw [emod_of (q := k - j + 1) (r := l - a + z - A) (by rw [eb, Int.add_mul (k - j), Int.one_mul]; omega) (by omega) (by omega)]
      omega
theorem inb_now {b st A l h : Int} (A0 : 0 < A) (l0 : 0 ≤ l) (lh : l ≤ h) (hA : h < A) (c : (l - b) % A = 0 ∨ A ≤ (l - b) % A + h - l) : Inb b st A l h 0 := by
  have a0 := Int.emod_nonneg (l - b) (show A ≠ 0 by omega)
  have a1 := Int.emod_lt_of_pos (l - b) A0
  have e := Int.mul_ediv_add_emod (l - b) A
  rw [Int.mul_comm] at e
  unfold Inb
  rw [Int.ofNat_zero, Int.zero_mul, Int.add_zero]
  generalize (l - b) % A = a at *
  generalize (l - b) / A = j at *
  rcases c with c | c
  · rw [emod_of (q := -j) (r := l) (by rw [Int.neg_mul]; omega) l0 (by omega)]
    omega
  · rw [emod_of (q := -j - 1) (r := l - a + A) (by rw [Int.sub_mul, Int.neg_mul, Int.one_mul]; omega) (by omega) (by omega)]
    omega
theorem fsb_of {b st A l h : Int} (A0 : 0 < A) (l0 : 0 ≤ l) (lh : l ≤ h) (hA : h < A) (c0 : (l - b) % A ≠ 0) (c1 : (l - b) % A + h - l < A) : ∀ {r : Option Nat}, Fst (st % A) A ((l - b) % A) ((l - b) % A + h - l) r → Fsb b st A l h r
  | none, f => fun n i => f n ((inb_iff A0 l0 lh hA c0 c1 n).mp i)
  | some n, f => ⟨(inb_iff A0 l0 lh hA c0 c1 n).mpr f.1, fun k hk i => f.2 k hk ((inb_iff A0 l0 lh hA c0 c1 k).mp i)⟩
theorem fsb_now {b st A l h : Int} (A0 : 0 < A) (l0 : 0 ≤ l) (lh : l ≤ h) (hA : h < A) (c : (l - b) % A = 0 ∨ A ≤ (l - b) % A + h - l) : Fsb b st A l h (some 0) := ⟨inb_now A0 l0 lh hA c, fun k hk => absurd hk (Nat.not_lt_zero _)⟩
/-- as many arounds more or less -/
theorem inb_alike {b st A l h c d : Int} (n : Nat) : Inb (b + c * A) (st + d * A) A l h n ↔ Inb b st A l h n := by
  unfold Inb
  have : b + c * A + n * (st + d * A) = b + n * st + (c + n * d) * A := by
    rw [Int.mul_add, Int.add_mul, ← Int.mul_assoc]; omega
  rw [this, Int.add_mul_emod_self_right]
theorem inb_round {b st A l h : Int} (A0 : 0 < A) (n : Nat) : Inb b st A l h n ↔ Inb b st A l h (n % A.toNat) := by
  unfold Inb
  have e : (b + n * st) % A = (b + (n % A.toNat : Nat) * st) % A := by
    have h1 : (n : Int) = (n % A.toNat : Nat) + (n / A.toNat : Nat) * A := by
      have h2 := Nat.div_add_mod n A.toNat
      have h3 : ((A.toNat : Nat) : Int) = A := by omega
      have h4 : ((A.toNat * (n / A.toNat) + n % A.toNat : Nat) : Int) = n := by rw [h2]
      rw [Int.natCast_add, Int.natCast_mul, h3, Int.mul_comm] at h4
      omega
    have : b + n * st = b + (n % A.toNat : Nat) * st + ((n / A.toNat : Nat) * st) * A := by
      rw [h1, Int.add_mul, Int.mul_assoc, Int.mul_comm A st, ← Int.mul_assoc]
      omega
    rw [this, Int.add_mul_emod_self_right]
  rw [e]
end Hz
set_option Elab.async false
set_option linter.all false
namespace Hz
open PySem PyProof.Rows L2
def optV : Option Nat → V
  | none => .non
  | some n => .int n
def optD : Option Nat → PyData
  | none => .none
  | some n => .int n
theorem dp_opt {K : PySem.W.Frag} {H : Hp} : ∀ r : Option Nat, Dp K H (optV r) (optD r)
  | none => .non
  | some n => .int n
theorem log2_60 {j : Nat} (h : j ≤ 10 ^ 60) : j.log2 < 200 := PySem.Flt.log2_lt_of (by decide) (Nat.lt_of_le_of_lt h (by decide))
theorem mulw_of {i j : Int} (hi : i.natAbs ≤ 10 ^ 60) (hj : j.natAbs ≤ 10 ^ 60) : CMulW i j := by
  have := log2_60 hi
  have := log2_60 hj
  unfold CMulW
  omega
theorem log2_150 {j : Nat} (h : j ≤ 10 ^ 150) : j.log2 < 500 := PySem.Flt.log2_lt_of (by decide) (Nat.lt_of_le_of_lt h (by decide))
theorem mulw_big {i j : Int} (hi : i.natAbs ≤ 10 ^ 150) (hj : j.natAbs ≤ 10 ^ 150) : CMulW i j := by
  have := log2_150 hi
  have := log2_150 hj
  unfold CMulW
  omega
/-- a ring and a window -/
structure Qd where
  s : Int
  A : Int
  l : Int
  h : Int
def Qd.less (g : Qd) : Qd := ⟨g.A % g.s, g.s, -g.h % g.s, -g.l % g.s⟩
abbrev Qd.W (g : Qd) : Prop := Wd g.s g.A g.l g.h
abbrev Qd.F (g : Qd) (r : Option Nat) : Prop := Fst g.s g.A g.l g.h r
structure Qd.B (g : Qd) : Prop where
  s0 : 0 ≤ g.s
  sA : g.s < g.A
  l0 : 0 < g.l
  lh : g.l ≤ g.h
  hA : g.h < g.A
/-- how rings shrank -/
inductive Ch (o : Qd) : List Qd → Qd → Prop
  | nil : Ch o [] o
  | snoc {gs : List Qd} {g : Qd} : Ch o gs g → g.W → Ch o (gs ++ [g]) g.less
theorem Ch.none {o : Qd} : ∀ {gs : List Qd} {g : Qd}, Ch o gs g → g.F none → o.F none
  | _, _, .nil, f => f
  | _, _, .snoc c w, f => c.none (w.none f)
theorem Ch.last {o : Qd} {gs : List Qd} {g : Qd} (c : Ch o gs g) (h : 0 < gs.length) : ∃ gs' g', gs = gs' ++ [g'] ∧ Ch o gs' g' ∧ g'.W ∧ g = g'.less := by
  cases c with
  | nil => simp at h
  | snoc c w => exact ⟨_, _, rfl, c, w, rfl⟩
theorem Ch.zero {o g : Qd} (c : Ch o [] g) : g = o := by
  generalize e : ([] : List Qd) = gs at c
  cases c with
  | nil => rfl
  | snoc c w => simp at e
theorem less_mul {s A : Int} (s0 : 0 < s) (sA : s < A) : 2 * (A % s * s) ≤ s * A := by
  have e := Int.mul_ediv_add_emod A s
  have e1 := Int.emod_nonneg A (show s ≠ 0 by omega)
  have e2 := Int.emod_lt_of_pos A s0
  have q1 : 1 ≤ A / s := by
    refine Int.not_lt.mp fun c => ?_
    have : s * (A / s) ≤ s * 0 := Int.mul_le_mul_of_nonneg_left (by omega) (by omega)
    omega
  have : s * 1 ≤ s * (A / s) := Int.mul_le_mul_of_nonneg_left q1 (by omega)
  have h : 2 * (A % s) ≤ A := by omega
  have := Int.mul_le_mul_of_nonneg_left h (show 0 ≤ s by omega)
  have e3 : s * (2 * (A % s)) = 2 * (A % s * s) := by rw [Int.mul_comm s, Int.mul_assoc]
  omega
theorem inw_inb {s A l h : Int} (n : Nat) : Inw s A l h n ↔ Inb 0 s A l h n := by
  unfold Inw Inb
  rw [Int.zero_add]
theorem fst_lt {s A l h : Int} {n : Nat} (A0 : 0 < A) (f : Fst s A l h (some n)) : (n : Int) < A := by
  have h1 := (inb_round A0 n).mp ((inw_inb n).mp f.1)
  have h2 : n % A.toNat < A.toNat := Nat.mod_lt _ (by omega)
  by_cases c : n % A.toNat < n
  · exact absurd ((inw_inb _).mpr h1) (f.2 _ c)
  · omega
theorem fsb_lt {b s A l h : Int} {n : Nat} (A0 : 0 < A) (f : Fsb b s A l h (some n)) : (n : Int) < A := by
  have h1 := (inb_round A0 n).mp f.1
  have h2 : n % A.toNat < A.toNat := Nat.mod_lt _ (by omega)
  by_cases c : n % A.toNat < n
  · exact absurd h1 (f.2 _ c)
  · omega
theorem fsb_alike {b st A l h c d : Int} : ∀ {r : Option Nat}, Fsb b st A l h r → Fsb (b + c * A) (st + d * A) A l h r
  | none, f => fun n i => f n ((inb_alike n).mp i)
  | some n, f => ⟨(inb_alike n).mpr f.1, fun k hk i => f.2 k hk ((inb_alike k).mp i)⟩
theorem inb_dec {b st A l h : Int} (n : Nat) : Inb b st A l h n ∨ ¬ Inb b st A l h n := Classical.em _
theorem fsb_ex (b st A l h : Int) : ∃ r, Fsb b st A l h r := by
  by_cases c : ∃ n, Inb b st A l h n
  · obtain ⟨n, hn⟩ := c
    have : ∀ m, Inb b st A l h m → ∃ k, Inb b st A l h k ∧ ∀ j, j < k → ¬ Inb b st A l h j := by
      intro m
      induction m using Nat.strongRecOn with
      | ind m ih =>
        intro hm
        by_cases c : ∃ j, j < m ∧ Inb b st A l h j
        · obtain ⟨j, h1, h2⟩ := c
          exact ih j h1 h2
        · exact ⟨m, hm, fun j hj i => c ⟨j, hj, i⟩⟩
    obtain ⟨k, h1, h2⟩ := this n hn
    exact ⟨some k, h1, h2⟩
  · exact ⟨none, fun n i => c ⟨n, i⟩⟩
/-- the last one below so many -/
def Lsb (b st A l h N : Int) : Option Nat → Prop
  | none => ∀ n : Nat, (n : Int) < N → ¬ Inb b st A l h n
  | some n => (n : Int) < N ∧ Inb b st A l h n ∧ ∀ k : Nat, n < k → (k : Int) < N → ¬ Inb b st A l h k
theorem lsb_uniq {b st A l h N : Int} : ∀ {x y : Option Nat}, Lsb b st A l h N x → Lsb b st A l h N y → x = y
  | none, none, _, _ => rfl
  | none, some m, f, g => absurd g.2.1 (f m g.1)
  | some n, none, f, g => absurd f.2.1 (g n f.1)
  | some n, some m, f, g => by
    rcases Nat.lt_trichotomy n m with c | c | c
    · exact absurd g.2.1 (f.2.2 m c g.1)
    · rw [c]
    · exact absurd f.2.1 (g.2.2 n c f.1)
def lastOf (N : Int) : Option Nat → Option Nat
  | none => none
  | some n => if (n : Int) < N then some (N - 1 - n).toNat else none
theorem inb_back {b st A l h N : Int} {n m : Nat} (e : (m : Int) = N - 1 - n) : Inb (b + (N - 1) * st) (-st) A l h n ↔ Inb b st A l h m := by
  unfold Inb
  have : b + (N - 1) * st + n * -st = b + m * st := by
    rw [e, Int.sub_mul (N - 1) n st, Int.mul_neg]
    omega
  rw [this]
theorem lsb_of {b st A l h N : Int} : ∀ {r : Option Nat}, Fsb (b + (N - 1) * st) (-st) A l h r → Lsb b st A l h N (lastOf N r)
  | none, f => fun m hm i => f (N - 1 - m).toNat ((inb_back (m := m) (by omega)).mpr i)
  | some n, ⟨f1, f2⟩ => by
    show Lsb b st A l h N (if (n : Int) < N then some (N - 1 - n).toNat else none)
    by_cases c : (n : Int) < N
    · rw [if_pos c]
      refine ⟨by omega, (inb_back (n := n) (by omega)).mp f1, fun k hk hN i => ?_⟩
      exact f2 (N - 1 - k).toNat (by omega) ((inb_back (m := k) (by omega)).mpr i)
    · rw [if_neg c]
      exact fun m hm i => f2 (N - 1 - m).toNat (by omega) ((inb_back (m := m) (by omega)).mpr i)
theorem pow_len {k : Nat} {x y : Int} (hx : 1 ≤ x) (h : 2 ^ k * x ≤ y) (hy : y ≤ 10 ^ 110) : k ≤ 400 := by
  refine Nat.not_lt.mp fun c => ?_
  obtain ⟨j, rfl⟩ : ∃ j, k = 401 + j := ⟨k - 401, by omega⟩
  have e1 : (1 : Int) ≤ 2 ^ j := Int.pow_pos (show (0 : Int) < 2 by decide)
  rw [Int.pow_add] at h
  have e2 : (2 : Int) ^ 401 * 1 ≤ 2 ^ 401 * 2 ^ j := Int.mul_le_mul_of_nonneg_left e1 (Int.pow_nonneg (by decide))
  have e3 : (2 : Int) ^ 401 * 2 ^ j * 1 ≤ 2 ^ 401 * 2 ^ j * x := Int.mul_le_mul_of_nonneg_left hx (by omega)
  have e4 : (10 : Int) ^ 110 < 2 ^ 401 * 1 := by decide
  rw [Int.mul_one] at e3
  exact absurd (Int.lt_of_lt_of_le e4 (Int.le_trans e2 (Int.le_trans e3 (Int.le_trans h hy)))) (Int.lt_irrefl _)
end Hz
set_option Elab.async false
set_option linter.all false
set_option maxRecDepth 100000
set_option maxHeartbeats 4000000
namespace Z64
open PySem PySem.Spec PyProof.Rows L2 Hz Hz.Win
section
variable {P : Program} {w : World} {K : PySem.W.Frag} {mg : Str → Option Value} {base : Heap}
local macro_rules | `(tactic| walk_at "un") => `(tactic| dsimp only [tSeq, tIfS, tRet, tAsg, tDrop, tOr, tAnd, tNot, tAndV, tOrV, tNotV, tTest, tB, tOp, tUn, tCB, tCons, tNil, tC, tNext, tIf, tChain, gName, tPar, tPar3, tTup, tLst])
/-- from the rings back -/
def spGb (K : PySem.W.Frag) : Sp := fun vs H Q _ => ∃ (L : Addr) (rs : List V) (wv fv : V) (ws : List Int) (ps : List Pb) (o cur : Pb) (f : List (Nat × Nat)), vs = [.ref L, wv, fv] ∧ SqL K H L rs ∧ DpAll K H rs (ps.map ringD) ∧ Dp K H wv (.list (ws.map PyData.int)) ∧ Dp K H fv (.list ((f.map cst).map pd)) ∧ Ch ws o ps cur ∧ Good ws cur f ∧ f.length ≤ 10000 ∧ Wf ws cur ∧ cur.M ≤ 10 ^ 50 ∧ (∀ p ∈ ps, p.M ≤ 10 ^ 50) ∧
  ∀ n j v H', LAt ws o n j → Dp K H' v (pd (cst (n, j))) → Ex [] H H' → Q v H'
theorem fm_filter {α β : Type} (c : α → Prop) [DecidablePred c] (g : α → β) (l : List α) : (l.filterMap fun q => if c q then some (g q) else none) = (l.filter fun q => decide (c q)).map g := by
  induction l with
  | nil => rfl
  | cons a l ih =>
    rw [List.filterMap_cons, List.filter_cons]
    by_cases z : c a
    · rw [if_pos z, if_pos (decide_eq_true z), List.map_cons, ← ih]
    · rw [if_neg z, if_neg (by simpa using z), ← ih]
theorem pair_at {G : Hp} {xs : List V} {f : List (Nat × Nat)} {k : Nat} {x : V} (h : DpAll K G xs ((f.map cst).map pd)) (e : xs[k]? = some x) : ∃ q a, f[k]? = some q ∧ x = .ref a ∧ SqT K G a [.int (q.1 : Nat), .int (q.2 : Nat)] := by
  obtain ⟨d, hd, hD⟩ := dpa_get' h e
  rw [List.getElem?_map, List.getElem?_map] at hd
  cases eq : f[k]? with
  | none => rw [eq] at hd; cases hd
  | some q =>
    rw [eq] at hd
    cases hd
    obtain ⟨a, ys, rfl, hS, hA⟩ := dp_tup (show Dp K G x (.tuple [.int (q.1 : Nat), .int (q.2 : Nat)]) from hD)
    cases hA with
    | cons h1 hA =>
    cases hA with
    | cons h2 hA =>
    cases hA
    cases h1
    cases h2
    exact ⟨q, a, rfl, rfl, hS⟩
theorem ok_gone_back (T : Txt K mg) : FnOk P w K mg base CX0 1 T.a_gone_back T.d_gone_back P_gone_back (spGb K) := by
  have nd := sc_gone_back.nd
  refine T.F_gone_back.ok sc_gone_back (fun vs H Q E h => ?_) (fun cdv A outer s H vs Q E hr h => ?_)
  · obtain ⟨L, rs, wv, fv, ws, ps, o, cur, f, rfl, _⟩ := h
    rfl
  · obtain ⟨L, rs, wv, fv, ws, ps, o, cur, f, rfl, hL, hR, hW, hF, hc, hg, hn, hwf, hM, hps, q⟩ := h
    have t0 : (10 : Int) ^ 50 = 100000000000000000000000000000000000000000000000000 := by decide
    refine ⟨_, (pss_cons (ps_for PassesOwn.never rfl (RT.pi_revA (by rfl) T.z_reversed (pv 0)) (pg_tupK K 3 (by rfl) (pgs_cons (pg_name (i := 3) nd rfl (Or.inr rfl)) (pgs_cons (pg_name (i := 4) nd rfl (Or.inr rfl)) (pgs_cons (pg_name (i := 5) nd rfl (Or.inr rfl)) pgs_nil)))) (pss_cons (ps_set (i := 6) nd rfl (Or.inr rfl) (pe_ix (ixK K) (pe_callB (cr_minP rfl hr.units) (by rfl) T.z_min (by decide +kernel) (pa_cons (pv 2) pa_nil)) pe_int (fun _ _ => rfl)))
      (pss_cons (ps_setLc (i := 7) (own := [("times", 8), ("place", 9)]) (by rfl) nd rfl rfl (sw_true rfl rfl rfl (by decide +kernel)) (pi_seqK K (pv 2)) (blkOk_by (N := N_gone_back) (own := [("times", 8), ("place", 9)]) (sc := defScope s_gone_back) (by decide +kernel)) (fun _ _ _ _ _ => (pg_tupK K 2 (by rfl) (pgs_cons (pg_name (i := 8) nd rfl (Or.inl rfl)) (pgs_cons (pg_name (i := 9) nd rfl (Or.inl rfl)) pgs_nil)))) (fun _ _ _ _ _ => (pts_one (pt_cmpR op_eq (pv 8) (pv 6) (nomark _)))) (fun _ _ _ _ _ => (pe_tup (pa_cons (pv 8) (pa_cons (pv 9) pa_nil)))))
      (pss_one (ps_setLc (i := 2) (own := [("times", 8), ("place", 9)]) (by rfl) nd rfl rfl (sw_true rfl rfl rfl (by decide +kernel)) (pi_seqK K (pv 7)) (blkOk_by (N := N_gone_back) (own := [("times", 8), ("place", 9)]) (sc := defScope s_gone_back) (by decide +kernel)) (fun _ _ _ _ _ => (pg_tupK K 2 (by rfl) (pgs_cons (pg_name (i := 8) nd rfl (Or.inl rfl)) (pgs_cons (pg_name (i := 9) nd rfl (Or.inl rfl)) pgs_nil)))) (fun _ _ _ _ _ => pts_nil) (fun _ _ _ _ _ => (pe_tup (pa_cons (pe_un un_neg (pe_op op_fdivW (pe_un un_neg (pe_op op_sub (pe_op op_add (pe_op op_mulW (pv 8) (pv 4)) (pe_ix (ixK K) (pv 5) (pv 9) (fun _ _ => rfl))) (pe_ix (ixK K) (pv 1) (pv 9) (fun _ _ => rfl)))) (pv 3))) (pa_cons (pv 9) pa_nil)))))))))
      (pss_one (ps_ret (pe_callB (cr_minP rfl hr.units) (by rfl) T.z_min (by decide +kernel) (pa_cons (pv 2) pa_nil))))), ?_⟩
    walk_at "un"
    have lr : rs.length = ps.length := by have := dpa_len hR; rw [List.length_map] at this; exact this
    refine ⟨_, rfl, L, rs, rfl, .inl ⟨hL, RT.for_Itv (xs := rs) (fun j σ H' => ∃ (u3 u4 u5 u6 u7 : Option V) (gs1 gs2 : List Pb) (e : Pb) (f' : List (Nat × Nat)) (fv' : V), σ = [some (.ref L), some wv, some fv', u3, u4, u5, u6, u7, none, none] ∧ ps = gs1 ++ gs2 ∧ gs2.length = j ∧ Ch ws o gs1 e ∧ Good ws e f' ∧ f'.length ≤ 10000 ∧ Wf ws e ∧ e.M ≤ 10 ^ 50 ∧ Dp K H' fv' (.list ((f'.map cst).map pd)) ∧ Ex [] H H')
      ⟨_, _, _, _, _, ps, [], cur, f, fv, rfl, by simp, rfl, hc, hg, hn, hwf, hM, hF, Ex.refl _ _⟩ (fun j σ H' hP => ?_) (fun j x σ H' hj hx hP => ?_) (fun σ H' hP => ?_)⟩⟩
    · obtain ⟨_, _, _, _, _, _, _, _, _, _, _, _, _, _, _, _, _, _, _, x⟩ := hP
      exact le_l x.le0 hL
    · obtain ⟨u3, u4, u5, u6, u7, gs1, gs2, e, f', fv', rfl, eg, lg2, hc, hg, hn, hwf, hM, hF, x1⟩ := hP
      have l1 : gs1.length + gs2.length = ps.length := by rw [eg, List.length_append]
      obtain ⟨gs1', e', rfl, hc', W'⟩ := hc.last (by omega)
      rw [List.length_append, List.length_singleton] at l1
      have ix : rs.length - 1 - j = gs1'.length := by omega
      rw [ix] at hx
      have hge : ps[gs1'.length]? = some e' := by
        rw [eg, List.append_assoc, List.getElem?_append_right (Nat.le_refl _), Nat.sub_self]
        rfl
      obtain ⟨d, hd, hDx⟩ := dpa_get' (dpa_le x1.le0 _ _ hR) hx
      rw [List.getElem?_map, hge] at hd
      cases hd
      obtain ⟨ra, rxs, rfl, hrS, hrA⟩ := dp_tup (show Dp K H' x (.tuple [.int e'.s, .int e'.M, .list (e'.hs.map PyData.int)]) from hDx)
      cases hrA with
      | cons h1 hrA =>
      cases hrA with
      | cons h2 hrA =>
      cases hrA with
      | cons h3 hrA =>
      cases hrA
      cases h1
      cases h2
      rename_i hv
      refine ⟨ra, _, rfl, hrS, rfl, _, _, rfl, _, _, rfl, _, _, rfl, rfl, ?_⟩
      walk_at "un"
      refine ⟨_, rfl, fv', f'.map cst, rfl, hF, fun z => hg.ne (List.map_eq_nil_iff.mp z), fun z p lp hz => ?_⟩
      obtain ⟨n0, j0, rfl, m0, la0⟩ := least_at hg lp
      refine z_ixD (show Dp K H' z (sq true [.int n0, .int j0]) from hz) (Le.refl _) (j := 0) rfl rfl fun u hu => ?_
      cases hu
      obtain ⟨fa, fxs, rfl, hfS, hfA⟩ := dp_sq (t := false) hF
      have lf := dpa_len hfA
      rw [List.length_map, List.length_map] at lf
      have hs10 : e'.M ≤ 10 ^ 50 := hps e' (List.mem_of_getElem? hge)
      rw [t0] at hs10 hM
      refine z_lcQ (t := false) (B := []) (xs := fxs) (fun R r => ⟨_, rfl, r fa H' (Ex.refl _ _) hfS⟩) (by omega) (fun k => (f'[k]?).bind fun q => if q.1 = n0 then some (pd (cst q)) else none) (by simp) (fun H1 x2 k x hx D G nn nB e1 N M hN hM => ?_) (fun D zs H1 hD1 hz1 lz hAz x2 => ?_)
      · obtain ⟨q, a, hq, rfl, hT⟩ := pair_at hfA hx
        have hT' := le_t (x2.trans e1).le0 hT
        have hk : ((f'[k]?).bind fun q => if q.1 = n0 then some (pd (cst q)) else none) = if q.1 = n0 then some (pd (cst q)) else none := by rw [hq]; rfl
        refine ⟨a, _, rfl, hT', rfl, _, _, rfl, _, _, rfl, rfl, rfl, _, rfl, _, rfl, rfl, _, rfl, ?_⟩
        by_cases c : q.1 = n0
        · rw [decide_eq_true (show V.int (q.1 : Nat) = V.int (n0 : Nat) by rw [c])]
          rw [if_pos c] at hk
          refine iteT ⟨_, rfl, _, rfl, show 2 ≤ sizeLine by decide, fun p hp => ?_⟩
          exact hN (pd (cst q)) _ _ hk (Ex.new hp) (.tup (SqT.of (wo_of (by simp only [List.mem_singleton]; exact fun z => nn (z ▸ hp)) upd_same)) (dpa_of_ints [(q.1 : Int), (q.2 : Int)]))
        · rw [decide_eq_false (show ¬ V.int (q.1 : Nat) = V.int (n0 : Nat) by
            intro z
            injection z with z
            exact c (by exact_mod_cast z))]
          rw [if_neg c] at hk
          exact iteF (hM hk _ (Ex.refl _ _))
      have eA : (List.range fxs.length).filterMap (fun k => (f'[k]?).bind fun q => if q.1 = n0 then some (pd (cst q)) else none) = ((f'.filter fun q => decide (q.1 = n0)).map cst).map pd := by
        rw [lf, range_bind, List.map_map]
        exact fm_filter _ _ _
      rw [eA] at hAz
      have lz1 := dpa_len hAz
      rw [List.length_map, List.length_map] at lz1
      have lfil : (f'.filter fun q => decide (q.1 = n0)).length ≤ f'.length := List.length_filter_le _ _
      have hM' := hM
      refine z_lcQ (t := false) (B := []) (xs := zs) (fun R r => ⟨_, rfl, r D H1 (Ex.refl _ _) (SqL.of hz1)⟩) (by omega) (fun k => ((f'.filter fun q => decide (q.1 = n0))[k]?).bind fun q => some (pd (cst ((cl ((q.1 : Int) * e'.M + e'.hs[q.2]?.getD 0 - ws[q.2]?.getD 0) e'.s).toNat, q.2)))) (by simp) (fun H2 x3 k x hx D2 G nn nB e1 N M hN _ => ?_) (fun D2 zs2 H2 hD2 hz2 lz2 hAz2 x3 => ?_)
      · obtain ⟨q, a, hq, rfl, hT⟩ := pair_at hAz hx
        have hT' := le_t (x3.trans e1).le0 (le_t (wo_le _ _) hT)
        have hqf := List.mem_of_getElem? hq
        obtain ⟨hq1, hq2⟩ := List.mem_filter.mp hqf
        have hq2 : q.1 = n0 := of_decide_eq_true hq2
        obtain ⟨h, w', n, eh, ew, hn', Aat, b1, b2⟩ := W'.at_up (t := q.1) (j := q.2) (hg.at_ hq1)
        have hwin := W'.wf.win eh ew
        have ht : (q.1 : Int) < e.M := by
          obtain ⟨_, _, _, _, F⟩ := hg.at_ hq1
          exact first_lt (by have := hwf.s0; have := hwf.sM; omega) F
        have hpos := W'.pos
        have hsM := W'.wf.sM
        have har := W'.around
        have tM0 : 0 ≤ (q.1 : Int) * e'.M := Int.mul_nonneg (by omega) (by omega)
        have big : (10 : Nat) ^ 60 = 1000000000000000000000000000000000000000000000000000000000000 := by decide
        have big2 : (10 : Int) ^ 60 = 1000000000000000000000000000000000000000000000000000000000000 := by decide
        have hx3 := x2.trans (x3.trans e1)
        refine ⟨a, _, rfl, hT', rfl, _, _, rfl, _, _, rfl, rfl, rfl, ?_⟩
        refine ⟨_, rfl, _, rfl, _, _, rfl, rfl, mulw_of (by omega) (by omega), _, rfl, _, rfl, ?_⟩
        refine z_ixD (t := false) (dp_le hx3.le0 _ _ h3) (Le.refl _) (j := q.2) rfl (by rw [List.getElem?_map, eh]; rfl) fun u hu => ?_
        cases hu
        refine ⟨_, _, rfl, rfl, _, rfl, _, rfl, ?_⟩
        refine z_ixD (t := false) (dp_le (x1.trans hx3).le0 _ _ hW) (Le.refl _) (j := q.2) rfl (by rw [List.getElem?_map, ew]; rfl) fun u hu => ?_
        cases hu
        refine ⟨_, _, rfl, rfl, _, rfl, _, rfl, _, _, rfl, rfl, divw_of hpos (by omega), _, rfl, _, rfl, show 2 ≤ sizeLine by decide, fun p hp => ?_⟩
        have ecl : -(-((q.1 : Int) * e'.M + h - w') / e'.s) = (n : Int) := hn'.symm
        have en : (cl ((q.1 : Int) * e'.M + e'.hs[q.2]?.getD 0 - ws[q.2]?.getD 0) e'.s).toNat = n := by
          rw [eh, ew]
          show (cl ((q.1 : Int) * e'.M + h - w') e'.s).toNat = n
          omega
        dsimp only
        rw [ecl]
        refine hN (pd (cst (n, q.2))) _ _ ?_ (Ex.new hp) (.tup (SqT.of (wo_of (by simp only [List.mem_singleton]; exact fun z => nn (z ▸ hp)) upd_same)) (dpa_of_ints [(n : Int), (q.2 : Int)]))
        rw [hq, ← en]
        rfl
      have eB : (List.range zs.length).filterMap (fun k => ((f'.filter fun q => decide (q.1 = n0))[k]?).bind fun q => some (pd (cst ((cl ((q.1 : Int) * e'.M + e'.hs[q.2]?.getD 0 - ws[q.2]?.getD 0) e'.s).toNat, q.2)))) = ((back ws e' n0 f').map cst).map pd := by
        rw [lz1, range_bind, back, List.map_map, List.map_map, ← List.filterMap_eq_map]
        rfl
      rw [eB] at hAz2
      have gB := W'.good hg (q0 := (n0, j0)) m0 (fun r hr => by
        have := lp.2 _ (List.mem_map.mpr ⟨r, hr, rfl⟩)
        unfold PLt cst at this
        simp only at this
        show n0 ≤ r.1
        omega)
      refine ⟨_, _, _, _, _, gs1', [e'] ++ gs2, e', back ws e' n0 f', .ref D2, rfl, by rw [eg, List.append_assoc], by rw [List.length_append, List.length_singleton]; omega, hc', gB, ?_, W'.wf, by rw [t0]; exact hs10, .lst (SqL.of hz2) (dpa_le (wo_le _ _) _ _ hAz2), x1.trans (x2.trans x3)⟩
      unfold back
      rw [List.length_map]
      omega
    · obtain ⟨u3, u4, u5, u6, u7, gs1, gs2, e, f', fv', rfl, eg, lg2, hc, hg, hn, hwf, hM, hF, x1⟩ := hP
      have l1 : gs1.length + gs2.length = ps.length := by rw [eg, List.length_append]
      have : gs1 = [] := List.eq_nil_of_length_eq_zero (by omega)
      subst this
      obtain rfl := hc.zero
      refine ⟨_, rfl, _, f'.map cst, rfl, hF, fun z => hg.ne (List.map_eq_nil_iff.mp z), fun z p lp hz => ?_⟩
      obtain ⟨n, k, rfl, _, la⟩ := least_at hg lp
      exact q n k z H' la hz x1
end
end Z64
set_option Elab.async false
set_option linter.all false
set_option maxRecDepth 100000
set_option maxHeartbeats 4000000
namespace Z64
open PySem PySem.Spec PyProof.Rows L2 Hz Hz.Win
section
variable {P : Program} {w : World} {K : PySem.W.Frag} {mg : Str → Option Value} {base : Heap}
local macro_rules | `(tactic| walk_at "un") => `(tactic| dsimp only [tSeq, tIfS, tRet, tAsg, tDrop, tOr, tAnd, tNot, tAndV, tOrV, tNotV, tTest, tB, tOp, tUn, tCB, tCons, tNil, tC, tNext, tIf, tChain, gName, tPar, tPar3, tTup, tLst])
/-- the least pair of steps and place -/
def spLst (K : PySem.W.Frag) : Sp := fun vs H Q _ => ∃ (hv wv : V) (hs ws : List Int) (s M : Int), vs = [hv, wv, .int s, .int M] ∧ Dp K H hv (.list (hs.map PyData.int)) ∧ Dp K H wv (.list (ws.map PyData.int)) ∧ Wf ws ⟨s, M, hs⟩ ∧ M ≤ 10 ^ 50 ∧ ws.length ≤ 10000 ∧
  (∀ H', (∀ n j, ¬ At ws ⟨s, M, hs⟩ n j) → Ex [] H H' → Q .non H') ∧
  ∀ n j v H', LAt ws ⟨s, M, hs⟩ n j → Dp K H' v (pd (cst (n, j))) → Ex [] H H' → Q v H'
def isLow (g : Pb) (ws : List Int) (k : Nat) : Bool := match g.hs[k]?, ws[k]? with
  | some h, some w => decide (h % g.s ≤ w)
  | _, _ => false
theorem isLow_of {g : Pb} {ws : List Int} {k : Nat} {h w : Int} (a : g.hs[k]? = some h) (b : ws[k]? = some w) : isLow g ws k = decide (h % g.s ≤ w) := by
  unfold isLow
  rw [a, b]
theorem ok_least_steps (T : Txt K mg) : FnOk P w K mg base CX0 2 T.a_least_steps T.d_least_steps P_least_steps (spLst K) := by
  have nd := sc_least_steps.nd
  have G_gone_back := ok_gone_back (P := P) (w := w) (base := base) T
  refine T.F_least_steps.ok sc_least_steps (fun vs H Q E h => ?_) (fun cdv A outer s H vs Q E hr h => ?_)
  · obtain ⟨hv, wv, hs, ws, s, M, rfl, _⟩ := h
    rfl
  · obtain ⟨hv, wv, hs, ws, st, N, rfl, hH, hW, hwf, hN, hlw, qn, q⟩ := h
    have hr_gone_back := hr
    refine ⟨_, (pss_cons (ps_set (i := 4) nd rfl (Or.inl rfl) (pe_lst pa_nil))
      (pss_cons (ps_while PassesOwn.never (pt_cmpR op_gt (pv 2) pe_int (nomark _)) (pss_cons (ps_setLc (i := 5) (own := [("high", 8)]) (by rfl) nd rfl rfl (sw_true rfl rfl rfl (by decide +kernel)) (pi_seqK K (pv 0)) (blkOk_by (N := N_least_steps) (own := [("high", 8)]) (sc := defScope s_least_steps) (by decide +kernel)) (fun _ _ _ _ _ => pg_name (i := 8) nd rfl (Or.inl rfl)) (fun _ _ _ _ _ => pts_nil) (fun _ _ _ _ _ => (pe_op op_mod (pv 8) (pv 2))))
      (pss_cons (ps_setLc (i := 6) (own := [("place", 9), ("rest", 10)]) (by rfl) nd rfl rfl (sw_true rfl rfl rfl (by decide +kernel)) (pi_enum (by rfl) T.z_enumerate (pa_cons (pv 5) pa_nil)) (blkOk_by (N := N_least_steps) (own := [("place", 9), ("rest", 10)]) (sc := defScope s_least_steps) (by decide +kernel)) (fun _ _ _ _ _ => (pg_tupK K 2 (by rfl) (pgs_cons (pg_name (i := 9) nd rfl (Or.inl rfl)) (pgs_cons (pg_name (i := 10) nd rfl (Or.inl rfl)) pgs_nil)))) (fun _ _ _ _ _ => (pts_one (pt_cmpR op_le (pv 10) (pe_ix (ixK K) (pv 1) (pv 9) (fun _ _ => rfl)) (nomark _)))) (fun _ _ _ _ _ => (pv 9)))
      (pss_cons (ps_if (pt_truth (pv 6) (fun _ => rfl)) (pss_cons (ps_setLc (i := 7) (own := [("place", 9)]) (by rfl) nd rfl rfl (sw_true rfl rfl rfl (by decide +kernel)) (pi_seqK K (pv 6)) (blkOk_by (N := N_least_steps) (own := [("place", 9)]) (sc := defScope s_least_steps) (by decide +kernel)) (fun _ _ _ _ _ => pg_name (i := 9) nd rfl (Or.inl rfl)) (fun _ _ _ _ _ => pts_nil) (fun _ _ _ _ _ => (pe_tup (pa_cons (pe_un un_neg (pe_op op_fdivW (pe_un un_neg (pe_op op_sub (pe_ix (ixK K) (pv 0) (pv 9) (fun _ _ => rfl)) (pe_ix (ixK K) (pv 1) (pv 9) (fun _ _ => rfl)))) (pv 2))) (pa_cons (pv 9) pa_nil)))))
      (pss_one (ps_ret (pe_call G_gone_back hr_gone_back (by rfl) T.m_gone_back T.k_gone_back T.b_gone_back .nil pass0 (pa_cons (pv 4) (pa_cons (pv 1) (pa_cons (pv 7) pa_nil))))))) pss_nil)
      (pss_cons (ps_expr (pe_bm PySem.F.plainAttrs_list PySem.F.slot_list_append PySem.F.type_list_append mt_append (pv 4) (pa_cons (pe_tup (pa_cons (pv 2) (pa_cons (pv 3) (pa_cons (pv 0) pa_nil)))) pa_nil)))
      (pss_cons (ps_asg (pe_tup (pa_cons (pe_op op_mod (pv 3) (pv 2)) (pa_cons (pv 2) pa_nil))) (pg_tupK K 2 (by rfl) (pgs_cons (pg_name (i := 2) nd rfl (Or.inr rfl)) (pgs_cons (pg_name (i := 3) nd rfl (Or.inr rfl)) pgs_nil))))
      (pss_one (ps_if (pt_cmpR op_gt (pe_op op_mul pe_int (pv 2)) (pv 3) (nomark _)) (pss_one (ps_asg (pe_tup (pa_cons (pe_op op_sub (pv 3) (pv 2)) (pa_cons (pv 5) pa_nil))) (pg_tupK K 2 (by rfl) (pgs_cons (pg_name (i := 2) nd rfl (Or.inr rfl)) (pgs_cons (pg_name (i := 0) nd rfl (Or.inr rfl)) pgs_nil))))) (pss_one (ps_set (i := 0) nd rfl (Or.inr rfl) (pe_lc (own := [("rest", 10), ("wide", 11)]) (by rfl) nd (RZ.pi_zipA (by rfl) T.z_zip (pa_cons (pv 5) (pa_cons (pv 1) pa_nil))) (blkOk_by (N := N_least_steps) (own := [("rest", 10), ("wide", 11)]) (sc := defScope s_least_steps) (by decide +kernel)) (fun _ _ _ _ _ => (pg_tupK K 2 (by rfl) (pgs_cons (pg_name (i := 10) nd rfl (Or.inl rfl)) (pgs_cons (pg_name (i := 11) nd rfl (Or.inl rfl)) pgs_nil)))) (fun _ _ _ _ _ => pts_nil) (fun _ _ _ _ _ => (pe_op op_add (pe_op op_sub (pv 3) (pv 10)) (pv 11))))))))))))))
      (pss_one (ps_ret pe_non)))), ?_⟩
    walk_at "un"
    refine ⟨Nat.zero_le _, fun L hL => ?_⟩
    have x1 := Ex.new (B := []) (o := .lst []) hL
    have t0 : (10 : Int) ^ 50 = 100000000000000000000000000000000000000000000000000 := by decide
    rw [t0] at hN
    have wo1 : ∀ {G : Hp}, Ex [] H G → Le H (wo [L] G) := fun e a o h => wo_of (by simp only [List.mem_singleton]; exact fun z => by rw [z, hL] at h; cases h) (e.1 _ _ (by simp) h)
    refine ⟨fun c σ H' => ∃ (g : Pb) (gs : List Pb) (rs : List V) (hv : V) (u5 u6 u7 : Option V), σ = [some hv, some wv, some (.int g.s), some (.int g.M), some (.ref L), u5, u6, u7, none, none, none, none] ∧ c = g.s.toNat ∧ H' L = some (.lst rs) ∧ DpAll K (wo [L] H') rs (gs.map ringD) ∧ Dp K (wo [L] H') hv (.list (g.hs.map PyData.int)) ∧ Ch ws ⟨st, N, hs⟩ gs g ∧ Wf ws g ∧ (∀ p ∈ gs, p.M ≤ N) ∧ g.M ≤ N ∧ 2 ^ gs.length * g.s ≤ st ∧ Ex [] H H' ∧ gs.length ≤ 500,
      ⟨st.toNat, ⟨st, N, hs⟩, [], [], hv, _, _, _, rfl, rfl, upd_same, .nil, dp_le (wo1 x1) _ _ hH, .nil, hwf, by simp, Int.le_refl _, by simp, x1, by simp⟩, fun c σ H' hw => ?_⟩
    obtain ⟨g, gs, rs, hv, u5, u6, u7, rfl, rfl, hHL, hat, hG, hch, gwf, hgA, hA, hmul, x2, lg⟩ := hw
    refine ⟨_, rfl, _, _, rfl, rfl, _, rfl, ite2 (fun c => ?_) (fun c => ?_)⟩
    · have s0 : 0 < g.s := of_decide_eq_true c
      have l0 := gwf.len
      have hst : st < N := hwf.sM
      have lg4 : gs.length ≤ 400 := pow_len (show 1 ≤ g.s by omega) hmul (by
        have : (10 : Int) ^ 50 ≤ 10 ^ 110 := by decide
        omega)
      obtain ⟨ha, hxs, rfl, hhS, hhA⟩ := dp_sq (t := false) hG
      have lh := dpa_len hhA
      rw [List.length_map] at lh
      have hhS' : SqL K H' ha hxs := le_l (wo_le _ _) hhS
      refine ⟨_, fun _ _ hh => hh, ?_⟩
      walk_at "un"
      refine z_lcP1 (t := false) (xs := hxs) (fun R r => ⟨_, rfl, r ha H' (Ex.refl _ _) hhS'⟩) (by omega) (fun k => ((g.hs[k]?).map fun h => V.int (h % g.s)).getD .non) (fun k y H1 hy y1 Nx hN' => ?_) (fun D H1 hD hz y1 => ?_)
      · obtain ⟨d, hd, hDy⟩ := dpa_get' hhA hy
        rw [List.getElem?_map] at hd
        obtain ⟨h, eh, rfl⟩ := Option.map_eq_some_iff.mp hd
        cases hDy
        refine ⟨rfl, _, rfl, _, rfl, _, _, rfl, rfl, s0, ?_⟩
        have := hN' H1 (Ex.refl _ _)
        rw [eh] at this
        exact this
      rw [lh, map_at] at hz
      have other : ∀ {k : Nat} {h : Int}, g.hs[k]? = some h → ∃ w, ws[k]? = some w := fun {k h} e => by
        obtain ⟨l, _⟩ := List.getElem?_eq_some_iff.mp e
        exact ⟨_, List.getElem?_eq_getElem (by omega)⟩
      refine z_lcE (xs := g.hs.map fun h => V.int (h % g.s)) (fun R r => ⟨_, rfl, r D H1 (Ex.refl _ _) (SqL.of hz)⟩) (by rw [List.length_map]; omega) (isLow g ws) (fun k => V.int k) (fun k y T2 H2 hy y2 hT2 Nx Mx hN' hM' => ?_) (fun D2 H2 hD2 hz2 y2 => ?_)
      · rw [List.getElem?_map] at hy
        obtain ⟨h, eh, rfl⟩ := Option.map_eq_some_iff.mp hy
        obtain ⟨w', ew⟩ := other eh
        have el := isLow_of eh ew
        refine ⟨T2, _, rfl, SqT.of hT2, rfl, _, _, rfl, _, _, rfl, rfl, rfl, _, rfl, _, rfl, _, rfl, ?_⟩
        refine z_ixD (t := false) (dp_le (x2.trans (y1.trans y2)).le0 _ _ hW) (Le.refl _) (j := k) rfl (by rw [List.getElem?_map, ew]; rfl) fun u hu => ?_
        cases hu
        refine ⟨_, _, rfl, rfl, _, rfl, ?_⟩
        rw [← el]
        cases eb : isLow g ws k with
        | true => exact iteT ⟨_, rfl, hN' eb _ (Ex.refl _ _)⟩
        | false => exact iteF (hM' eb _ (Ex.refl _ _))
      rw [List.length_map, l0] at hz2
      have mem : ∀ j, j ∈ (List.range ws.length).filter (isLow g ws) ↔ ∃ h w, g.hs[j]? = some h ∧ ws[j]? = some w ∧ h % g.s ≤ w := fun j => by
        rw [List.mem_filter, List.mem_range]
        refine ⟨fun ⟨a, b⟩ => ?_, fun ⟨h, w, eh, ew, b⟩ => ?_⟩
        · have eh : g.hs[j]? = some g.hs[j] := List.getElem?_eq_getElem (by omega)
          have ew : ws[j]? = some ws[j] := List.getElem?_eq_getElem a
          rw [isLow_of eh ew] at b
          exact ⟨_, _, eh, ew, of_decide_eq_true b⟩
        · rw [isLow_of eh ew]
          exact ⟨(List.getElem?_eq_some_iff.mp ew).1, decide_eq_true b⟩
      have lps : ((List.range ws.length).filter (isLow g ws)).length ≤ ws.length := by
        have := List.length_filter_le (isLow g ws) (List.range ws.length)
        rwa [List.length_range] at this
      generalize (List.range ws.length).filter (isLow g ws) = pls at mem hz2 lps
      refine ⟨_, rfl, _, .inl ⟨_, SqL.of hz2, rfl⟩, ?_⟩
      have y12 := y1.trans y2
      have x3 := x2.trans y12
      by_cases ne : pls = []
      · subst ne
        refine iteF ?_
        have lrs := dpa_len hat
        rw [List.length_map] at lrs
        have hL0 : H L = none := hL
        have hHL2 : H2 L = some (.lst rs) := y12.get (by simp) hHL
        refine ⟨_, rfl, .inl ⟨rfl, _, SqL.of hHL2⟩, _, rfl, _, rfl, _, rfl, show 3 ≤ sizeLine by decide, fun p hp => ?_⟩
        have y3 := Ex.new (B := []) (o := .tup [.int g.s, .int g.M, .ref ha]) hp
        have pL : p ≠ L := fun z => by rw [z, hHL2] at hp; cases hp
        refine ⟨L, _, _, rfl, rfl, y3.get (by simp) hHL2, sz_lt (by omega), ?_⟩
        have w1 : ∀ {G : Hp} {o : HO}, Le (wo [L] G) (wo [L] (upd G L o)) := fun a o h => by
          obtain ⟨n1, n2⟩ := wo_some h
          exact wo_of n1 (by rw [upd_ne (fun z => n1 (by rw [z]; exact List.mem_singleton.mpr rfl))]; exact n2)
        have w2 : Le (wo [L] H') (wo [L] (upd (upd H2 p (.tup [.int g.s, .int g.M, .ref ha])) L (.lst (rs ++ [.ref p])))) := Le.trans (y12.trans y3).nil.wo w1
        have hX : Ex [] H (upd (upd H2 p (.tup [.int g.s, .int g.M, .ref ha])) L (.lst (rs ++ [.ref p]))) := (x3.trans y3).mutNew' hL0
        have hD5 : upd (upd H2 p (.tup [.int g.s, .int g.M, .ref ha])) L (.lst (rs ++ [.ref p])) D = some (.lst (g.hs.map fun h => V.int (h % g.s))) := by
          have : H2 D = some (.lst (g.hs.map fun h => V.int (h % g.s))) := y2.get (by simp) hz
          rw [upd_ne (fun z => by rw [z] at hD; rw [hHL] at hD; cases hD)]
          exact y3.get (by simp) this
        have DL : D ≠ L := fun z => by rw [z] at hD; rw [hHL] at hD; cases hD
        have hat2 : DpAll K (wo [L] (upd (upd H2 p (.tup [.int g.s, .int g.M, .ref ha])) L (.lst (rs ++ [.ref p])))) (rs ++ [.ref p]) ((gs ++ [g]).map ringD) := by
          rw [List.map_append]
          refine dpa_snoc (dpa_le w2 _ _ hat) (.tup (SqT.of (wo_of (by simpa using pL) (by rw [upd_ne pL]; exact upd_same))) (.cons (.int _) (.cons (.int _) (.cons (dp_le w2 _ _ hG) .nil))))
        have hLnow : upd (upd H2 p (.tup [.int g.s, .int g.M, .ref ha])) L (.lst (rs ++ [.ref p])) L = some (.lst (rs ++ [.ref p])) := upd_same
        generalize upd (upd H2 p (.tup [.int g.s, .int g.M, .ref ha])) L (.lst (rs ++ [.ref p])) = Hb at hX hD5 hat2 hLnow ⊢
        have fin : ∀ (g' : Pb) (hv' : V) (H5 : Hp) (v5 v6 v7 : Option V), Low ws g g' → 2 * g'.s ≤ g.s → Ex [] Hb H5 → Dp K (wo [L] H5) hv' (.list (g'.hs.map PyData.int)) →
            ∃ m', m' < g.s.toNat ∧ ∃ (g : Pb) (gs : List Pb) (rs : List V) (hv : V) (u5 u6 u7 : Option V), [some hv', some wv, some (.int g'.s), some (.int g'.M), some (.ref L), v5, v6, v7, none, none, none, none] = [some hv, some wv, some (.int g.s), some (.int g.M), some (.ref L), u5, u6, u7, none, none, none, none] ∧ m' = g.s.toNat ∧ H5 L = some (.lst rs) ∧ DpAll K (wo [L] H5) rs (gs.map ringD) ∧ Dp K (wo [L] H5) hv (.list (g.hs.map PyData.int)) ∧ Ch ws ⟨st, N, hs⟩ gs g ∧ Wf ws g ∧ (∀ p ∈ gs, p.M ≤ N) ∧ g.M ≤ N ∧ 2 ^ gs.length * g.s ≤ st ∧ Ex [] H H5 ∧ gs.length ≤ 500 := fun g' hv' H5 v5 v6 v7 lo hs2 e5 hd => by
          have g0 := lo.wf'.s0
          refine ⟨g'.s.toNat, by omega, g', gs ++ [g], rs ++ [.ref p], hv', _, _, _, rfl, rfl, e5.get (by simp) hLnow, dpa_le e5.nil.wo _ _ hat2, hd, .snoc hch lo, lo.wf', fun q hq => ?_, by rw [lo.around]; have := gwf.sM; omega, ?_, hX.trans e5, by rw [List.length_append]; show gs.length + 1 ≤ 500; omega⟩
          · rcases List.mem_append.mp hq with h | h
            · exact hgA q h
            · rw [List.mem_singleton.mp h]; exact hA
          · have p0 : (0 : Int) ≤ 2 ^ gs.length := Int.pow_nonneg (by decide)
            have h2 := Int.mul_le_mul_of_nonneg_left hs2 p0
            rw [List.length_append, List.length_singleton, Int.pow_succ, Int.mul_assoc]
            exact Int.le_trans h2 hmul
        have no : ∀ {j : Nat} {h w : Int}, g.hs[j]? = some h → ws[j]? = some w → w < h % g.s := fun {j h w} eh ew => by
          rcases Int.lt_or_le w (h % g.s) with c | c
          · exact c
          · exact absurd ((mem j).mpr ⟨h, w, eh, ew, c⟩) (by simp)
        have m0 := Int.emod_nonneg g.M (Int.ne_of_gt s0)
        have m1 := Int.emod_lt_of_pos g.M s0
        refine ⟨_, rfl, _, rfl, _, _, rfl, rfl, s0, _, rfl, show 2 ≤ sizeLine by decide, fun p2 hp2 => ?_⟩
        refine ⟨p2, _, rfl, SqT.of upd_same, rfl, _, _, rfl, _, _, rfl, rfl, ?_⟩
        have z2 := Ex.new (B := []) (o := .tup [.int (g.M % g.s), .int g.s]) hp2
        walk_at "un"
        refine ⟨_, rfl, _, _, rfl, rfl, .inl ⟨by decide, by decide⟩, _, rfl, _, _, rfl, rfl, _, rfl, ite2 (fun c3 => ?_) (fun c3 => ?_)⟩
        · have c3 : g.s < 2 * (g.M % g.s) := of_decide_eq_true c3
          refine ⟨_, rfl, _, rfl, _, _, rfl, rfl, _, rfl, show 2 ≤ sizeLine by decide, fun p3 hp3 => ?_⟩
          refine ⟨p3, _, rfl, SqT.of upd_same, rfl, _, _, rfl, _, _, rfl, rfl, ?_⟩
          have z3 := Ex.new (B := []) (o := .tup [.int (g.s - g.M % g.s), .ref D]) hp3
          refine fin ⟨g.s - g.M % g.s, g.s, g.hs.map fun h => h % g.s⟩ (.ref D) _ _ _ _ (Low.of2 gwf s0 no (by omega) (by rw [List.length_map]; exact l0) fun {j h w h'} eh ew e' => ?_) (by show 2 * (g.s - g.M % g.s) ≤ g.s; omega) (z2.trans z3) ?_
          · rw [List.getElem?_map, eh] at e'
            cases e'
            rfl
          · rw [List.map_map]
            exact dp_il (ns := g.hs.map fun h => h % g.s) (wo_of (by simpa using DL) ((z2.trans z3).get (by simp) (by rw [List.map_map]; exact hD5))) |> fun h => by rwa [List.map_map] at h
        · have c3 : ¬ g.s < 2 * (g.M % g.s) := of_decide_eq_false (Bool.eq_false_iff.mpr c3)
          obtain ⟨wa, wxs, ewv, hwS, hwA⟩ := dp_sq (t := false) hW
          subst ewv
          have lw := dpa_len hwA
          rw [List.length_map] at lw
          refine z_lcZN (t := false) (n := ws.length) (xs := g.hs.map fun h => V.int (h % g.s)) (ys := wxs) (by rw [List.length_map]; omega) (by omega) (.inr (by omega)) (by omega) (fun R r => ⟨_, rfl, _, rfl, r D wa _ (Ex.refl _ _) (SqL.of (z2.get (by simp) hD5)) (le_l (hX.trans z2).le0 hwS)⟩) (fun i => V.int (g.s - g.hs[i]?.getD 0 % g.s + ws[i]?.getD 0)) (fun i y z T3 H4 hy hz4 e4 hT3 Nx hN' => ?_) (fun D4 H4 hD4 hz4 e4 => ?_)
          · rw [List.getElem?_map] at hy
            obtain ⟨h, eh, rfl⟩ := Option.map_eq_some_iff.mp hy
            obtain ⟨d, hd, hDz⟩ := dpa_get' hwA hz4
            rw [List.getElem?_map] at hd
            obtain ⟨w', ew, rfl⟩ := Option.map_eq_some_iff.mp hd
            cases hDz
            refine ⟨T3, _, rfl, SqT.of hT3, rfl, _, _, rfl, _, _, rfl, rfl, rfl, ?_⟩
            refine ⟨_, rfl, _, rfl, _, _, rfl, rfl, _, rfl, _, _, rfl, rfl, ?_⟩
            have := hN' H4 (Ex.refl _ _)
            rw [eh, ew] at this
            exact this
          · refine fin ⟨g.M % g.s, g.s, (List.range ws.length).map fun i => g.s - g.hs[i]?.getD 0 % g.s + ws[i]?.getD 0⟩ (.ref D4) _ _ _ _ (Low.of1 gwf s0 no (by rw [List.length_map, List.length_range]) fun {j h w h'} eh ew e' => ?_) (by show 2 * (g.M % g.s) ≤ g.s; omega) (z2.trans e4) ?_
            · have lj : j < ws.length := (List.getElem?_eq_some_iff.mp ew).1
              rw [List.getElem?_map, List.getElem?_range lj] at e'
              cases e'
              show g.s - g.hs[j]?.getD 0 % g.s + ws[j]?.getD 0 = _
              rw [eh, ew]
              rfl
            · refine dp_il (wo_of ?_ (by rw [hz4, List.map_map]; rfl))
              simp only [List.mem_singleton]
              exact fun z => by rw [z] at hD4; rw [z2.get (by simp) hLnow] at hD4; cases hD4
      · rw [show (!((pls.map fun k : Nat => V.int k).isEmpty)) = true by
          cases pls with
          | nil => exact absurd rfl ne
          | cons a l => rfl]
        refine iteT ?_
        refine z_lcQ (t := false) (B := []) (xs := pls.map fun k : Nat => V.int k) (fun R r => ⟨_, rfl, r D2 H2 (Ex.refl _ _) (SqL.of hz2)⟩) (by rw [List.length_map]; omega) (fun k => (pls[k]?).bind fun j => some (pd (cst ((cl (g.hs[j]?.getD 0 - ws[j]?.getD 0) g.s).toNat, j)))) (by simp) (fun H3 y3 k y hy D3 G nn nB e1 Nx Mx hN' _ => ?_) (fun D3 zs H3 hD3 hz3 lz hAz y3 => ?_)
        · rw [List.getElem?_map] at hy
          obtain ⟨j, ej, rfl⟩ := Option.map_eq_some_iff.mp hy
          obtain ⟨h, w', eh, ew, hr'⟩ := (mem j).mp (List.mem_of_getElem? ej)
          have hwin := gwf.win eh ew
          obtain ⟨n, hn', _, _⟩ := first_flat s0 gwf.sM hwin.1 hwin.2.1 hwin.2.2 hr'
          have big2 : (10 : Int) ^ 60 = 1000000000000000000000000000000000000000000000000000000000000 := by decide
          have hx3 := y12.trans (y3.trans e1)
          refine ⟨rfl, ?_⟩
          refine ⟨_, rfl, _, rfl, ?_⟩
          refine z_ixD (t := false) (dp_le (Le.trans (wo_le _ _) hx3.le0) _ _ hG) (Le.refl _) (j := j) rfl (by rw [List.getElem?_map, eh]; rfl) fun u hu => ?_
          cases hu
          refine ⟨_, rfl, _, rfl, ?_⟩
          refine z_ixD (t := false) (dp_le (x2.trans hx3).le0 _ _ hW) (Le.refl _) (j := j) rfl (by rw [List.getElem?_map, ew]; rfl) fun u hu => ?_
          cases hu
          have hst : g.s ≤ N := by have := gwf.sM; omega
          refine ⟨_, _, rfl, rfl, _, rfl, _, rfl, _, _, rfl, rfl, divw_of s0 (by omega), _, rfl, _, rfl, show 2 ≤ sizeLine by decide, fun p hp => ?_⟩
          have ecl : -(-(h - w') / g.s) = (n : Int) := hn'.symm
          have en : (cl (g.hs[j]?.getD 0 - ws[j]?.getD 0) g.s).toNat = n := by
            rw [eh, ew]
            show (cl (h - w') g.s).toNat = n
            omega
          dsimp only
          rw [ecl]
          refine hN' (pd (cst (n, j))) _ _ ?_ (Ex.new hp) (.tup (SqT.of (wo_of (by simp only [List.mem_singleton]; exact fun z => nn (z ▸ hp)) upd_same)) (dpa_of_ints [(n : Int), (j : Int)]))
          rw [ej, ← en]
          rfl
        have eB : (List.range (pls.map fun k : Nat => V.int k).length).filterMap (fun k => (pls[k]?).bind fun j => some (pd (cst ((cl (g.hs[j]?.getD 0 - ws[j]?.getD 0) g.s).toNat, j)))) = ((pls.map fun j => ((cl (g.hs[j]?.getD 0 - ws[j]?.getD 0) g.s).toNat, j)).map cst).map pd := by
          rw [List.length_map, range_bind, List.map_map, List.map_map, ← List.filterMap_eq_map]
          rfl
        rw [eB] at hAz
        have y13 := y12.trans y3
        have hHL3 : H3 L = some (.lst rs) := y13.get (by simp) hHL
        refine ⟨_, rfl, _, rfl, _, rfl, L, rs, wv, .ref D3, ws, gs, ⟨st, N, hs⟩, g, pls.map fun j => ((cl (g.hs[j]?.getD 0 - ws[j]?.getD 0) g.s).toNat, j), rfl, SqL.of hHL3, dpa_le (Le.trans (wo_le _ _) y13.le0) _ _ hat, dp_le (x2.trans y13).le0 _ _ hW, .lst (SqL.of hz3) (dpa_le (wo_le _ _) _ _ hAz), hch, good_flat gwf s0 ne mem, by rw [List.length_map]; omega, gwf, by rw [t0]; omega, fun p hp => by rw [t0]; have := hgA p hp; omega, fun n j v H4 la hd e4 => q n j v H4 la hd ((x2.trans y13).trans e4)⟩
    · have s0 : g.s = 0 := by
        have := of_decide_eq_false (Bool.eq_false_iff.mpr c)
        have := gwf.s0
        omega
      exact qn H' (hch.none (none_zero gwf s0)) x2
end
end Z64
set_option Elab.async false
set_option linter.all false
namespace Hz
namespace Hill
/-- the line behind so many turns -/
noncomputable def ledN (h : Hill) (a : Nat) (x : Int) : Nat → Int
  | 0 => x
  | k + 1 => h.ledZ ((a + k) % h.needs.length) (ledN h a x k)
def lineZ (h : Hill) (s : Now) : Int := h.given s.day - s.pot
theorem ledN_shift (h : Hill) (a : Nat) (x : Int) : ∀ k, h.ledN a x (k + 1) = h.ledN ((a + 1) % h.needs.length) (h.ledZ (a % h.needs.length) x) k
  | 0 => rfl
  | k + 1 => by
    show h.ledZ ((a + (k + 1)) % h.needs.length) (h.ledN a x (k + 1)) = h.ledZ (((a + 1) % h.needs.length + k) % h.needs.length) _
    rw [ledN_shift h a x k, Nat.mod_add_mod, show a + 1 + k = a + (k + 1) by omega]
section
variable {h : Hill} (hL : 0 < h.L) (hN : h.Nn) (ho : ∃ d, d ∈ h.year ∧ d.2 = true) (hd : 0 < h.drops)
include hL hN ho hd
theorem ledZ_year (i : Nat) (x k : Int) : h.ledZ i (x + k * h.drops) = h.ledZ i x + k * h.drops := by
  have e : x + k * h.drops + h.need i = x + h.need i + k * h.drops := by omega
  unfold ledZ
  rw [e, lostZ_year hL hN ho hd]
  omega
theorem ledN_year (a : Nat) (x k : Int) : ∀ n, h.ledN a (x + k * h.drops) n = h.ledN a x n + k * h.drops
  | 0 => rfl
  | n + 1 => by
    show h.ledZ _ (h.ledN a (x + k * h.drops) n) = h.ledZ _ (h.ledN a x n) + _
    rw [ledN_year a x k n, ledZ_year hL hN ho hd]
theorem ledZ_mono (i : Nat) {x y : Int} (l : x ≤ y) : h.ledZ i x ≤ h.ledZ i y := lost_mono hL hN (lostZ_spec hL hN ho hd _) (lostZ_spec hL hN ho hd _) (by omega)
theorem ledN_mono (a : Nat) {x y : Int} (l : x ≤ y) : ∀ n, h.ledN a x n ≤ h.ledN a y n
  | 0 => l
  | n + 1 => ledZ_mono hL hN ho hd _ (ledN_mono a l n)
/-- a turn by its line -/
theorem turn_led (hn : ∀ m ∈ h.needs, 0 ≤ m) {s : Now} {r : Now × Int} (a : h.At s) (t : h.Turn s r) : h.lineZ r.1 = h.ledZ s.ant (h.lineZ s) ∧ r.2 = h.lostZ (h.lineZ s + h.need s.ant) ∧ r.1.ant = (s.ant + 1) % h.needs.length := by
  obtain ⟨m, hm, rfl⟩ := t
  obtain ⟨e1, e2⟩ := turn_line hL hN hn a hm (lostZ_spec hL hN ho hd _)
  exact ⟨e2, e1.symm, rfl⟩
theorem rows_led (hm : 0 ≤ h.most) (hn : ∀ m ∈ h.needs, 0 ≤ m) : ∀ {l : List (Now × Int)} {s : Now} {k : Nat} {r : Now × Int}, h.At s → h.Rows s l → l[k]? = some r →
    h.lineZ r.1 = h.ledN s.ant (h.lineZ s) (k + 1) ∧ r.2 = h.lostZ (h.ledN s.ant (h.lineZ s) k + h.need ((s.ant + k) % h.needs.length)) ∧ r.1.ant = (s.ant + (k + 1)) % h.needs.length
  | [], _, _, _, _, _, e => by simp at e
  | r :: l, s, 0, r', a, x, e => by
    simp at e
    subst e
    obtain ⟨e1, e2, e3⟩ := turn_led hL hN ho hd hn a x.1
    have em : s.ant % h.needs.length = s.ant := Nat.mod_eq_of_lt a.an
    refine ⟨?_, ?_, e3⟩
    · rw [e1]; show _ = h.ledZ ((s.ant + 0) % _) (h.lineZ s); rw [Nat.add_zero, em]
    · rw [e2]; show _ = h.lostZ (h.lineZ s + h.need ((s.ant + 0) % _)); rw [Nat.add_zero, em]
  | r :: l, s, k + 1, r', a, x, e => by
    have e' : l[k]? = some r' := by simpa using e
    obtain ⟨e1, e2, e3⟩ := turn_led hL hN ho hd hn a x.1
    have em : s.ant % h.needs.length = s.ant := Nat.mod_eq_of_lt a.an
    obtain ⟨i1, i2, i3⟩ := rows_led hm hn (turn_at hm a x.1) x.2 e'
    have sh : ∀ j, h.ledN r.1.ant (h.lineZ r.1) j = h.ledN s.ant (h.lineZ s) (j + 1) := fun j => by rw [ledN_shift, e1, e3, em]
    have ea : ∀ j, (r.1.ant + j) % h.needs.length = (s.ant + (j + 1)) % h.needs.length := fun j => by rw [e3, Nat.mod_add_mod, show s.ant + 1 + j = s.ant + (j + 1) by omega]
    exact ⟨by rw [i1, sh], by rw [i2, sh, ea], by rw [i3, ea]⟩
end
end Hill
end Hz
set_option Elab.async false
set_option linter.all false
namespace Hz
namespace Hill
section
variable {h : Hill} (hL : 0 < h.L) (hN : h.Nn) (ho : ∃ d, d ∈ h.year ∧ d.2 = true) (hd : 0 < h.drops) (m0 : 0 ≤ h.most)
include hL hN ho hd m0
theorem lostZ_open {d : Nat} (od : h.isOpen d = true) : h.lostZ (h.given d) = 0 := lost_none hL hN (lostZ_spec hL hN ho hd _) od (Int.le_refl _) (by omega)
theorem low_iff {x : Int} (x0 : 0 ≤ x) (x1 : x < h.drops) : (0 < h.lostZ x ∧ h.lostZ (x - 1) = 0) ↔ (0 < h.lostZ x ∧ ∃ d, h.isOpen d = true ∧ x = (h.given d + 1) % h.drops) := by
  constructor
  · rintro ⟨p, z⟩
    refine ⟨p, ?_⟩
    have ey := lostZ_year hL hN ho hd x 1
    rw [Int.one_mul] at ey
    obtain ⟨d, k, od, le, e⟩ := lost_low hL hN ho hd (y := x + h.drops) (by omega) (by rw [ey]; exact p)
    rw [ey] at e
    refine ⟨d, od, ?_⟩
    by_cases c : h.given d + 1 - k * h.drops < x + h.drops
    · exfalso
      have li := lost_in hL hN ho hd m0 (d := d) (f := x + h.drops - 1 - (h.given d + 1 - k * h.drops)) od (by omega) (by omega)
      have e2 : h.given d + 1 + (x + h.drops - 1 - (h.given d + 1 - k * h.drops)) = (x - 1) + (k + 1) * h.drops := by
        rw [Int.add_mul, Int.one_mul]; omega
      rw [e2, lostZ_year hL hN ho hd] at li
      omega
    · refine (emod_of (q := k + 1) ?_ x0 x1).symm
      rw [Int.add_mul, Int.one_mul]; omega
  · rintro ⟨p, d, od, e⟩
    refine ⟨p, ?_⟩
    have e1 := Int.mul_ediv_add_emod (h.given d + 1) h.drops
    rw [← e, Int.mul_comm] at e1
    have e2 := lostZ_year hL hN ho hd (x - 1) ((h.given d + 1) / h.drops)
    rw [← e2, show x - 1 + (h.given d + 1) / h.drops * h.drops = h.given d by omega]
    exact lostZ_open hL hN ho hd m0 od
theorem low_end (x : Int) : h.lostZ (x + h.lostZ x) = 0 := by
  obtain ⟨k, m, h1, h2, h3⟩ := lostZ_spec hL hN ho hd x
  generalize h.lostZ x = z at h3
  by_cases c : z = 0
  · rw [c, Int.add_zero]
    have e := lostZ_year hL hN ho hd x k
    rw [← e]
    refine lost_none hL hN (lostZ_spec hL hN ho hd _) h2.1 h2.2.1 ?_
    omega
  · have e := lostZ_year hL hN ho hd (x + z) k
    rw [← e]
    have hz : h.given m = h.most + (x + k * h.drops) + z := by omega
    exact lost_none hL hN (lostZ_spec hL hN ho hd _) h2.1 (by omega) (by omega)
theorem low_run {x j : Int} (j0 : 0 ≤ j) : h.lostZ x ≤ j + h.lostZ (x + j) := by
  have := lost_mono hL hN (lostZ_spec hL hN ho hd x) (lostZ_spec hL hN ho hd (x + j)) (by omega)
  omega
end
end Hill
end Hz
set_option Elab.async false
set_option linter.all false
namespace Hz
namespace Hill
/-- the greatest number that is led to no more than y -/
def Back (h : Hill) (y r : Int) : Prop := ∀ n : Int, n + h.lostZ n ≤ y ↔ n ≤ r
/-- the greatest line from which so many turns lead to no more than y -/
def Late (h : Hill) (a n : Nat) (y r : Int) : Prop := ∀ x : Int, h.ledN a x n ≤ y ↔ x ≤ r
theorem late_uniq {h : Hill} {a n : Nat} {y r r' : Int} (p : h.Late a n y r) (q : h.Late a n y r') : r = r' := by
  have e : ∀ x : Int, x ≤ r ↔ x ≤ r' := fun x => (p x).symm.trans (q x)
  have := (e r).mp (Int.le_refl _)
  have := (e r').mpr (Int.le_refl _)
  omega
theorem late_zero {h : Hill} {a : Nat} {y : Int} : h.Late a 0 y y := fun _ => Iff.rfl
theorem late_step {h : Hill} {a n : Nat} {y r r' : Int} (b : h.Back y r) (l : h.Late a n (r - h.need ((a + n) % h.needs.length)) r') : h.Late a (n + 1) y r' := fun x => by
  rw [← l x]
  show h.ledZ ((a + n) % h.needs.length) (h.ledN a x n) ≤ y ↔ _
  unfold ledZ
  rw [b]
  constructor <;> intro <;> omega
theorem ledN_add (h : Hill) (a : Nat) (x : Int) (p : Nat) : ∀ n, h.ledN a x (p + n) = h.ledN ((a + p) % h.needs.length) (h.ledN a x p) n
  | 0 => rfl
  | n + 1 => by
    show h.ledZ ((a + (p + n)) % _) (h.ledN a x (p + n)) = h.ledZ (((a + p) % _ + n) % _) _
    rw [ledN_add h a x p n, Nat.mod_add_mod, Nat.add_assoc]
theorem late_add {h : Hill} {a p n : Nat} {y m r : Int} (l : h.Late ((a + p) % h.needs.length) n y m) (l' : h.Late a p m r) : h.Late a (p + n) y r := fun x => by
  rw [ledN_add, l, l']
section
variable {h : Hill} (hL : 0 < h.L) (hN : h.Nn) (ho : ∃ d, d ∈ h.year ∧ d.2 = true) (hd : 0 < h.drops)
include hL hN ho hd
theorem late_year {a n : Nat} {y r : Int} (l : h.Late a n y r) (k : Int) : h.Late a n (y + k * h.drops) (r + k * h.drops) := fun x => by
  have e := ledN_year hL hN ho hd a (x + -k * h.drops) k n
  rw [show x + -k * h.drops + k * h.drops = x by rw [Int.neg_mul]; omega] at e
  rw [e]
  have := l (x + -k * h.drops)
  rw [Int.neg_mul] at this ⊢
  constructor
  · intro p; have := this.mp (by omega); omega
  · intro p; have := this.mpr (by omega); omega
theorem phi_mono {m n : Int} (l : m ≤ n) : m + h.lostZ m ≤ n + h.lostZ n := lost_mono hL hN (lostZ_spec hL hN ho hd _) (lostZ_spec hL hN ho hd _) l
theorem lostZ_nn (y : Int) : 0 ≤ h.lostZ y := (lostZ_spec hL hN ho hd y).nn
theorem back_of {y r : Int} (p : r + h.lostZ r ≤ y) (q : y < r + 1 + h.lostZ (r + 1)) : h.Back y r := fun n => by
  constructor
  · intro l
    refine Int.not_lt.mp fun c => ?_
    have := phi_mono hL hN ho hd (show r + 1 ≤ n by omega)
    omega
  · intro l
    have := phi_mono hL hN ho hd l
    omega
/-- what it is led to -/
theorem led_ge {a : Nat} (hn : ∀ m ∈ h.needs, 0 ≤ m) {x : Int} : ∀ n, x ≤ h.ledN a x n
  | 0 => Int.le_refl _
  | n + 1 => by
    have i := led_ge (a := a) hn (x := x) n
    have l0 := lostZ_nn hL hN ho hd (h.ledN a x n + h.need ((a + n) % h.needs.length))
    have n0 : 0 ≤ h.need ((a + n) % h.needs.length) := by
      unfold need
      cases q : h.needs[(a + n) % h.needs.length]? with
      | none => exact Int.le_refl _
      | some v => exact hn v (List.mem_of_getElem? q)
    show x ≤ h.ledZ _ _
    unfold ledZ
    omega
variable (hm0 : 0 ≤ h.most)
include hm0
theorem back_none {l : List Int} (o : h.Lows l) {y : Int} (no : ∀ x ∈ l, ¬ (y - x) % h.drops ≤ h.lostZ x - 1) : h.Back y y := by
  have z := Lows.without hL hN ho hd hm0 o no
  have p := lostZ_nn hL hN ho hd (y + 1)
  exact back_of hL hN ho hd (by omega) (by omega)
theorem back_in {l : List Int} (o : h.Lows l) {x y : Int} (hx : x ∈ l) (f : (y - x) % h.drops ≤ h.lostZ x - 1) : h.Back y (y - (y - x) % h.drops - 1) := by
  obtain ⟨x0, x1, x2, d, od, ex⟩ := (o.mem x).mp hx
  have e := Int.mul_ediv_add_emod (y - x) h.drops
  have e0 := Int.emod_nonneg (y - x) (show h.drops ≠ 0 by omega)
  have em : y - (y - x) % h.drops = x + (y - x) / h.drops * h.drops := by rw [Int.mul_comm]; omega
  have lz : h.lostZ (y - (y - x) % h.drops) = h.lostZ x := by rw [em, lostZ_year hL hN ho hd]
  have l0 := ((low_iff hL hN ho hd hm0 x0 x1).mpr ⟨x2, d, od, ex⟩).2
  have lz1 : h.lostZ (y - (y - x) % h.drops - 1) = 0 := by
    rw [em, show x + (y - x) / h.drops * h.drops - 1 = x - 1 + (y - x) / h.drops * h.drops by omega, lostZ_year hL hN ho hd, l0]
  exact back_of hL hN ho hd (by omega) (by rw [show y - (y - x) % h.drops - 1 + 1 = y - (y - x) % h.drops by omega, lz]; omega)
end
end Hill
end Hz
set_option Elab.async false
set_option linter.all false
namespace Hz
/-- no more things than places -/
theorem nodup_le {α : Type} [DecidableEq α] : ∀ {l m : List α}, l.Nodup → (∀ x ∈ l, x ∈ m) → l.length ≤ m.length
  | [], _, _, _ => Nat.zero_le _
  | a :: l, m, nd, s => by
    obtain ⟨n1, n2⟩ := List.nodup_cons.mp nd
    have ha := s a (List.mem_cons_self ..)
    have := nodup_le (l := l) (m := m.erase a) n2 fun x hx => by
      have hne : x ≠ a := fun z => n1 (z ▸ hx)
      exact (List.mem_erase_of_ne hne).mpr (s x (List.mem_cons_of_mem _ hx))
    rw [List.length_erase_of_mem ha] at this
    have : 0 < m.length := List.length_pos_of_mem ha
    rw [List.length_cons]
    omega
namespace Hill
/-- what so many ants need together, from that one on -/
def needN (h : Hill) (a : Nat) : Nat → Int
  | 0 => 0
  | k + 1 => needN h a k + h.need ((a + k) % h.needs.length)
theorem needN_add (h : Hill) (a p : Nat) : ∀ k, h.needN a (p + k) = h.needN a p + h.needN ((a + p) % h.needs.length) k
  | 0 => by show h.needN a p = h.needN a p + 0; omega
  | k + 1 => by
    show h.needN a (p + k) + h.need ((a + (p + k)) % _) = h.needN a p + (h.needN _ k + h.need (((a + p) % _ + k) % _))
    rw [needN_add h a p k, Nat.mod_add_mod, Nat.add_assoc a p k]
    omega
theorem needN_mod (h : Hill) (a : Nat) : ∀ k, h.needN (a % h.needs.length) k = h.needN a k
  | 0 => rfl
  | k + 1 => by
    show h.needN (a % _) k + h.need ((a % _ + k) % _) = h.needN a k + h.need ((a + k) % _)
    rw [needN_mod h a k, Nat.mod_add_mod]
theorem needN_take (h : Hill) : ∀ k, k ≤ h.needs.length → h.needN 0 k = (h.needs.take k).sum
  | 0, _ => rfl
  | k + 1, hk => by
    show h.needN 0 k + h.need ((0 + k) % h.needs.length) = _
    rw [needN_take h k (by omega), Nat.zero_add, Nat.mod_eq_of_lt (by omega), List.take_add_one, List.getElem?_eq_getElem (by omega), List.sum_append]
    unfold need
    rw [List.getElem?_eq_getElem (by omega)]
    simp
theorem needN_ring (h : Hill) (n0 : 0 < h.needs.length) : ∀ a, h.needN a h.needs.length = h.needs.sum
  | 0 => by rw [needN_take h _ (Nat.le_refl _), List.take_length]
  | a + 1 => by
    have e1 := needN_add h a 1 h.needs.length
    have e2 := needN_add h a h.needs.length 1
    rw [Nat.add_comm] at e1
    rw [e1, needN_ring h n0 a, needN_mod] at e2
    have e3 : h.needN a 1 = h.need (a % h.needs.length) := by
      show 0 + h.need ((a + 0) % _) = _
      rw [Nat.add_zero, Int.zero_add]
    have e4 : h.needN ((a + h.needs.length) % h.needs.length) 1 = h.need (a % h.needs.length) := by
      show 0 + h.need (((a + h.needs.length) % _ + 0) % _) = _
      rw [Nat.add_zero, Nat.mod_mod, Nat.add_mod_right, Int.zero_add]
    rw [e3, e4] at e2
    omega
theorem needN_rounds (h : Hill) (n0 : 0 < h.needs.length) (a : Nat) : ∀ r f, h.needN a (r * h.needs.length + f) = r * h.needs.sum + h.needN a f
  | 0, f => by rw [Nat.zero_mul, Nat.zero_add]; show _ = 0 * _ + _; rw [Int.zero_mul, Int.zero_add]
  | r + 1, f => by
    rw [Nat.add_mul, Nat.one_mul, Nat.add_comm (r * _), Nat.add_assoc, needN_add, needN_ring h n0, Nat.add_mod_right, needN_mod, needN_rounds h n0 a r f]
    rw [Int.natCast_add, Int.add_mul]
    omega
/-- in so many turns nothing is lost -/
def Quiet (h : Hill) (a : Nat) (x : Int) (k : Nat) : Prop := ∀ j, 1 ≤ j → j ≤ k → h.lostZ (x + h.needN a j) = 0
theorem ledN_quiet {h : Hill} {a : Nat} {x : Int} : ∀ {k}, h.Quiet a x k → h.ledN a x k = x + h.needN a k
  | 0, _ => by show x = x + 0; omega
  | k + 1, q => by
    have i := ledN_quiet (k := k) fun j h1 h2 => q j h1 (by omega)
    have z := q (k + 1) (by omega) (Nat.le_refl _)
    show h.ledZ ((a + k) % _) (h.ledN a x k) = x + (h.needN a k + h.need ((a + k) % _))
    rw [i]
    unfold ledZ
    have e : x + h.needN a k + h.need ((a + k) % h.needs.length) = x + h.needN a (k + 1) := by
      show _ = x + (h.needN a k + h.need ((a + k) % _))
      omega
    rw [e, z]
    show x + (h.needN a k + h.need ((a + k) % _)) + 0 = _
    omega
/-- something is lost in that turn first -/
structure LossT (h : Hill) (a : Nat) (x : Int) (n : Nat) : Prop where
  n1 : 1 ≤ n
  quiet : h.Quiet a x (n - 1)
  lost : 0 < h.lostZ (x + h.needN a n)
theorem LossT.led {h : Hill} {a : Nat} {x : Int} {n : Nat} (l : h.LossT a x n) : h.ledN a x n = x + h.needN a n + h.lostZ (x + h.needN a n) := by
  obtain ⟨k, rfl⟩ : ∃ k, n = k + 1 := ⟨n - 1, by have := l.n1; omega⟩
  have i := ledN_quiet l.quiet
  rw [Nat.add_sub_cancel] at i
  show h.ledZ ((a + k) % _) (h.ledN a x k) = _
  rw [i]
  unfold ledZ
  have e : x + h.needN a k + h.need ((a + k) % h.needs.length) = x + h.needN a (k + 1) := by
    show _ = x + (h.needN a k + h.need ((a + k) % _))
    omega
  rw [e]
/-! ### marks and ways -/
structure Mk where
  t : Nat
  a : Nat
  y : Int
/-- the mark behind the next turn in which something is lost -/
def Nx (h : Hill) (m m' : Mk) : Prop := ∃ n, h.LossT m.a m.y n ∧ m' = ⟨m.t + n, (m.a + n) % h.needs.length, h.ledN m.a m.y n⟩
structure Way (h : Hill) (a : Nat) (x : Int) (ms : List Mk) (ag : Option Nat) : Prop where
  fst : ms[0]? = some ⟨0, a, x⟩
  nx : ∀ {i m m'}, ms[i]? = some m → ms[i + 1]? = some m' → h.Nx m m'
  fin : ag = none → ∀ {m}, ms[ms.length - 1]? = some m → ∀ n, h.Quiet m.a m.y n
  rep : ∀ {j}, ag = some j → j + 1 < ms.length ∧ ∃ mj ml, ms[j]? = some mj ∧ ms[ms.length - 1]? = some ml ∧ ml.a = mj.a ∧ ∃ k : Int, ml.y = mj.y + k * h.drops
section
variable {h : Hill} {a : Nat} {x : Int} {ms : List Mk} {ag : Option Nat} (ha : a < h.needs.length)
include ha
/-- where a way is at a mark -/
theorem way_at (f0 : ms[0]? = some ⟨0, a, x⟩) (nx : ∀ {i m m'}, ms[i]? = some m → ms[i + 1]? = some m' → h.Nx m m') : ∀ {i : Nat} {m : Mk}, ms[i]? = some m → m.a = (a + m.t) % h.needs.length ∧ m.y = h.ledN a x m.t ∧ i ≤ m.t
  | 0, m, e => by
    rw [f0] at e
    cases e
    exact ⟨(Nat.mod_eq_of_lt (by simpa using ha)).symm, rfl, Nat.le_refl _⟩
  | i + 1, m', e => by
    obtain ⟨m, em⟩ : ∃ m, ms[i]? = some m := by
      obtain ⟨l, _⟩ := List.getElem?_eq_some_iff.mp e
      exact ⟨_, List.getElem?_eq_getElem (by omega)⟩
    obtain ⟨i1, i2, i3⟩ := way_at f0 nx em
    obtain ⟨n, L, rfl⟩ := nx em e
    have := L.n1
    refine ⟨?_, ?_, by show i + 1 ≤ m.t + n; omega⟩
    · show (m.a + n) % _ = (a + (m.t + n)) % _
      rw [i1, Nat.mod_add_mod, Nat.add_assoc]
    · show h.ledN m.a m.y n = h.ledN a x (m.t + n)
      rw [ledN_add, ← i2, ← i1]
theorem Way.at_ (W : h.Way a x ms ag) {i : Nat} {m : Mk} (e : ms[i]? = some m) : m.a = (a + m.t) % h.needs.length ∧ m.y = h.ledN a x m.t ∧ i ≤ m.t := way_at ha W.fst W.nx e
theorem Way.lt (W : h.Way a x ms ag) {i j : Nat} {m m' : Mk} (e : ms[i]? = some m) (e' : ms[j]? = some m') (l : i < j) : m.t < m'.t := by
  induction j generalizing m' with
  | zero => omega
  | succ j ih =>
    obtain ⟨m1, em⟩ : ∃ m1, ms[j]? = some m1 := by
      obtain ⟨l, _⟩ := List.getElem?_eq_some_iff.mp e'
      exact ⟨_, List.getElem?_eq_getElem (by omega)⟩
    obtain ⟨n, L, rfl⟩ := W.nx em e'
    have := L.n1
    show m.t < m1.t + n
    by_cases c : i = j
    · subst c
      rw [e] at em
      cases em
      omega
    · have := ih em (by omega)
      omega
/-- behind a mark needs alone lead on -/
theorem Way.from_ (W : h.Way a x ms ag) {i : Nat} {m : Mk} (e : ms[i]? = some m) {many : Nat} (l : m.t ≤ many) (u : ∀ m', ms[i + 1]? = some m' → many < m'.t) (z : i + 1 = ms.length → ag = none ∨ many = m.t) :
    h.ledN a x many = m.y + h.needN m.a (many - m.t) := by
  obtain ⟨i1, i2, _⟩ := W.at_ ha e
  obtain ⟨k, rfl⟩ : ∃ k, many = m.t + k := ⟨many - m.t, by omega⟩
  rw [ledN_add, ← i2, ← i1, Nat.add_sub_cancel_left]
  refine ledN_quiet ?_
  obtain ⟨li, _⟩ := List.getElem?_eq_some_iff.mp e
  by_cases c : i + 1 = ms.length
  · rcases z c with z | z
    · exact W.fin z (by rw [show ms.length - 1 = i by omega]; exact e) k
    · have : k = 0 := by omega
      subst this
      exact fun j h1 h2 => by omega
  · have e' : ms[i + 1]? = some ms[i + 1] := List.getElem?_eq_getElem (by omega)
    obtain ⟨n, L, en⟩ := W.nx e e'
    have := u _ e'
    rw [en] at this
    have this : m.t + k < m.t + n := this
    exact fun j h1 h2 => L.quiet j h1 (by omega)
variable (hL : 0 < h.L) (hN : h.Nn) (ho : ∃ d, d ∈ h.year ∧ d.2 = true) (hd : 0 < h.drops)
include hL hN ho hd
/-- once around -/
theorem Way.round (W : h.Way a x ms ag) {j : Nat} (ej : ag = some j) {mj ml : Mk} (e1 : ms[j]? = some mj) (e2 : ms[ms.length - 1]? = some ml) (q : Nat) : h.ledN a x (ml.t + q) = h.ledN a x (mj.t + q) + (ml.y - mj.y) := by
  obtain ⟨lt, mj', ml', e1', e2', ea, k, ey⟩ := W.rep ej
  rw [e1] at e1'
  rw [e2] at e2'
  cases e1'
  cases e2'
  obtain ⟨a1, a2, _⟩ := W.at_ ha e1
  obtain ⟨b1, b2, _⟩ := W.at_ ha e2
  rw [ledN_add, ledN_add, ← a1, ← a2, ← b1, ← b2, ea, ey, ledN_year hL hN ho hd]
  omega
theorem Way.rounds (W : h.Way a x ms ag) {j : Nat} (ej : ag = some j) {mj ml : Mk} (e1 : ms[j]? = some mj) (e2 : ms[ms.length - 1]? = some ml) : ∀ (r q : Nat), h.ledN a x (mj.t + q + r * (ml.t - mj.t)) = h.ledN a x (mj.t + q) + r * (ml.y - mj.y)
  | 0, q => by rw [Nat.zero_mul, Nat.add_zero]; show _ = _ + 0 * _; rw [Int.zero_mul, Int.add_zero]
  | r + 1, q => by
    have lt := W.lt ha e1 e2 (by have := (W.rep ej).1; omega)
    have e : mj.t + q + (r + 1) * (ml.t - mj.t) = ml.t + (q + r * (ml.t - mj.t)) := by
      rw [Nat.add_mul, Nat.one_mul]
      omega
    rw [e, W.round ha hL hN ho hd ej e1 e2, ← Nat.add_assoc, Way.rounds W ej e1 e2 r q, Int.natCast_add, Int.add_mul]
    omega
end
end Hill
end Hz
set_option Elab.async false
set_option linter.all false
namespace Hz
/-- lists of one length, put together -/
theorem flat_at {α : Type} {m : Nat} (m0 : 0 < m) (F : Nat → List α) (hF : ∀ g, (F g).length = m) : ∀ (A j : Nat), ((List.range A).flatMap F)[j]? = if j < A * m then (F (j / m))[j % m]? else none
  | 0, j => by simp
  | A + 1, j => by
    have len : ((List.range A).flatMap F).length = A * m := by
      clear m0
      induction A with
      | zero => simp
      | succ A ih => rw [List.range_succ, List.flatMap_append, List.length_append, ih, Nat.add_mul, Nat.one_mul]; simp [hF]
    rw [List.range_succ, List.flatMap_append]
    by_cases c : j < A * m
    · rw [List.getElem?_append_left (by omega), flat_at m0 F hF A j, if_pos c, if_pos (by rw [Nat.add_mul]; omega)]
    · rw [List.getElem?_append_right (by omega), len]
      have e : ([A].flatMap F) = F A := by simp
      rw [e]
      by_cases c2 : j < (A + 1) * m
      · rw [if_pos c2]
        rw [Nat.add_mul, Nat.one_mul] at c2
        have e1 : j / m = A := by
          rw [Nat.div_eq_iff m0]
          rw [Nat.mul_comm] at *
          omega
        have e2 : j % m = j - A * m := by
          have := Nat.div_add_mod j m
          rw [e1, Nat.mul_comm] at this
          omega
        rw [e1, e2]
      · rw [if_neg c2]
        rw [Nat.add_mul, Nat.one_mul] at c2
        exact List.getElem?_eq_none (by rw [hF]; omega)
theorem flat_len {α : Type} {m : Nat} (F : Nat → List α) (hF : ∀ g, (F g).length = m) : ∀ A, ((List.range A).flatMap F).length = A * m
  | 0 => by simp
  | A + 1 => by rw [List.range_succ, List.flatMap_append, List.length_append, flat_len F hF A, Nat.add_mul, Nat.one_mul]; simp [hF]
theorem rep_flat {α : Type} (l : List α) : ∀ A, (List.replicate A l).flatten = (List.range A).flatMap fun _ => l
  | 0 => rfl
  | A + 1 => by
    rw [List.range_succ, List.flatMap_append, ← rep_flat l A, List.replicate_succ']
    simp
/-- a window seen from a number that's in none -/
theorem hit_st {M y low w R : Int} (M0 : 0 < M) (w0 : 0 ≤ w) (no : w < (y - low) % M) (n : Nat) :
    (Win.Hit (R % M) M ((low - y) % M + w) w n ↔ (y + n * R - low) % M ≤ w) ∧ 0 < (low - y) % M ∧ (low - y) % M + w < M := by
  have a := Int.emod_nonneg (y - low) (Int.ne_of_gt M0)
  have b := Int.emod_lt_of_pos (y - low) M0
  have u0 := Int.emod_nonneg ((n : Int) * R) (Int.ne_of_gt M0)
  have u1 := Int.emod_lt_of_pos ((n : Int) * R) M0
  have e : (low - y) % M = M - (y - low) % M := by
    have := Win.neg_mod (x := y - low) M0 0
    rw [if_neg (by omega), Int.zero_mul, show (0 : Int) - (y - low) = low - y by omega] at this
    exact this
  refine ⟨?_, by omega, by omega⟩
  unfold Win.Hit
  rw [Win.mul_mod, e, show y + (n : Int) * R - low = (y - low) + n * R by omega, Int.add_emod, Win.mod2 (x := (y - low) % M + ((n : Int) * R) % M) (s := M) (by omega) (by omega)]
  split <;> omega
namespace Hill
section
variable {h : Hill} (hL : 0 < h.L) (hN : h.Nn) (ho : ∃ d, d ∈ h.year ∧ d.2 = true) (hd : 0 < h.drops) (hm0 : 0 ≤ h.most)
include hL hN ho hd hm0
/-- something is lost just in stretches -/
theorem lost_iff {l : List Int} (o : h.Lows l) (y : Int) : 0 < h.lostZ y ↔ ∃ low ∈ l, (y - low) % h.drops ≤ h.lostZ low - 1 := by
  constructor
  · intro p
    refine Classical.byContradiction fun z => ?_
    have := Lows.without hL hN ho hd hm0 o (y := y) fun low hl c => z ⟨low, hl, c⟩
    omega
  · rintro ⟨low, hl, c⟩
    have := Lows.within hL hN ho hd hm0 o hl c
    omega
theorem lows_pos {l : List Int} (o : h.Lows l) {low : Int} (hl : low ∈ l) : 0 < h.lostZ low := ((o.mem low).mp hl).2.2.1
theorem lows_wide {l : List Int} (o : h.Lows l) {low : Int} (hl : low ∈ l) : h.lostZ low - 1 < h.drops := by
  have := lost_lt hL hN hd hm0 (lostZ_spec hL hN ho hd low)
  omega
/-- as many as open days at most -/
theorem lows_len {l : List Int} (o : h.Lows l) : l.length ≤ h.L := by
  have nd : l.Nodup := o.up.imp fun p => Int.ne_of_lt p
  have s : ∀ x ∈ l, x ∈ (List.range h.L).map fun d => (h.given d + 1) % h.drops := fun x hx => by
    obtain ⟨_, _, _, d, od, rfl⟩ := (o.mem x).mp hx
    refine List.mem_map.mpr ⟨d % h.L, List.mem_range.mpr (Nat.mod_lt _ hL), ?_⟩
    have e := Nat.mod_add_div d h.L
    have g := given_year (h := h) (n := d % h.L) hL (d / h.L)
    rw [Nat.mul_comm] at e
    rw [e] at g
    rw [g, show h.given (d % h.L) + ((d / h.L : Nat) : Int) * h.drops + 1 = h.given (d % h.L) + 1 + ((d / h.L : Nat) : Int) * h.drops by omega, Int.add_mul_emod_self_right]
  have := nodup_le nd s
  rwa [List.length_map, List.length_range] at this
/-- a turn's number by its place in the ring -/
theorem num_split (n0 : 0 < h.needs.length) (a : Nat) (x : Int) (r f : Nat) : x + h.needN a (r * h.needs.length + f) = x + h.needN a f + (r : Int) * h.needs.sum := by
  rw [needN_rounds h n0]
  omega
variable {l : List Int} (o : h.Lows l) (n0 : 0 < h.needs.length) (l0 : 0 < l.length) {a : Nat} {x : Int} (qu : h.Quiet a x h.needs.length)
omit hm0 hd ho hN hL
/-- the windows of all turns of a ring -/
noncomputable def highsF (h : Hill) (l : List Int) (a : Nat) (x : Int) (g : Nat) : List Int := l.map fun low => (low - (x + h.needN a (g + 1))) % h.drops + (h.lostZ low - 1)
noncomputable def highsR (h : Hill) (l : List Int) (a : Nat) (x : Int) (A : Nat) : List Int := (List.range A).flatMap (highsF h l a x)
noncomputable def widesF (h : Hill) (l : List Int) : List Int := l.map fun low => h.lostZ low - 1
noncomputable def widesR (h : Hill) (l : List Int) (A : Nat) : List Int := (List.range A).flatMap fun _ => widesF h l
theorem highs_at {A j : Nat} (l0 : 0 < l.length) (e : j < A * l.length) : ∃ low, l[j % l.length]? = some low ∧ low ∈ l ∧ (highsR h l a x A)[j]? = some ((low - (x + h.needN a (j / l.length + 1))) % h.drops + (h.lostZ low - 1)) ∧ (widesR h l A)[j]? = some (h.lostZ low - 1) := by
  have lt : j % l.length < l.length := Nat.mod_lt _ l0
  have g := List.getElem?_eq_getElem lt
  refine ⟨_, g, List.getElem_mem lt, ?_, ?_⟩
  · unfold highsR
    rw [flat_at l0 _ (fun g => by unfold highsF; rw [List.length_map]), if_pos e]
    unfold highsF
    rw [List.getElem?_map, g]
    rfl
  · unfold widesR
    rw [flat_at l0 _ (fun g => by unfold widesF; rw [List.length_map]), if_pos e]
    unfold widesF
    rw [List.getElem?_map, g]
    rfl
theorem highs_len (A : Nat) : (highsR h l a x A).length = A * l.length := flat_len _ (fun g => by unfold highsF; rw [List.length_map]) A
theorem wides_len (A : Nat) : (widesR h l A).length = A * l.length := flat_len _ (fun g => by unfold widesF; rw [List.length_map]) A
include hm0 hd ho hN hL o n0 l0 qu
/-- the windows are as they want to be -/
theorem win_wf : Win.Wf (widesR h l h.needs.length) ⟨h.needs.sum % h.drops, h.drops, highsR h l a x h.needs.length⟩ := by
  refine ⟨Int.emod_nonneg _ (Int.ne_of_gt hd), Int.emod_lt_of_pos _ hd, by rw [wides_len]; exact highs_len _, fun {j hh w} e1 e2 => ?_⟩
  have e1 : (highsR h l a x h.needs.length)[j]? = some hh := e1
  have lt : j < h.needs.length * l.length := by
    have := (List.getElem?_eq_some_iff.mp e2).1
    rwa [wides_len] at this
  obtain ⟨low, el, ml, f1, f2⟩ := highs_at (h := h) (l := l) (a := a) (x := x) l0 lt
  rw [f1] at e1
  rw [f2] at e2
  cases e1
  cases e2
  have p := lows_pos hL hN ho hd hm0 o ml
  have lf : j / l.length < h.needs.length := Nat.div_lt_of_lt_mul (by rw [Nat.mul_comm]; exact lt)
  have q := qu (j / l.length + 1) (Nat.succ_le_succ (Nat.zero_le _)) lf
  have no : h.lostZ low - 1 < (x + h.needN a (j / l.length + 1) - low) % h.drops := by
    refine Int.not_le.mp fun c => ?_
    have := (lost_iff hL hN ho hd hm0 o (x + h.needN a (j / l.length + 1))).mpr ⟨low, ml, c⟩
    omega
  have := (hit_st (R := 0) hd (show 0 ≤ h.lostZ low - 1 by omega) no 0).2
  show 0 ≤ h.lostZ low - 1 ∧ h.lostZ low - 1 < _ ∧ _ < h.drops
  omega
/-- what is lost in a turn, by the windows -/
theorem win_hit (r j : Nat) {low : Int} (lt : j < h.needs.length * l.length) (el : l[j % l.length]? = some low) : Win.Hit (h.needs.sum % h.drops) h.drops ((low - (x + h.needN a (j / l.length + 1))) % h.drops + (h.lostZ low - 1)) (h.lostZ low - 1) r ↔ (x + h.needN a (r * h.needs.length + (j / l.length + 1)) - low) % h.drops ≤ h.lostZ low - 1 := by
  have ml := List.mem_of_getElem? el
  have p := lows_pos hL hN ho hd hm0 o ml
  have lf : j / l.length < h.needs.length := Nat.div_lt_of_lt_mul (by rw [Nat.mul_comm]; exact lt)
  have q := qu (j / l.length + 1) (Nat.succ_le_succ (Nat.zero_le _)) lf
  have no : h.lostZ low - 1 < (x + h.needN a (j / l.length + 1) - low) % h.drops := by
    refine Int.not_le.mp fun c => ?_
    have := (lost_iff hL hN ho hd hm0 o (x + h.needN a (j / l.length + 1))).mpr ⟨low, ml, c⟩
    omega
  rw [(hit_st (R := h.needs.sum) hd (show 0 ≤ h.lostZ low - 1 by omega) no r).1, num_split hL hN ho hd hm0 n0]
/-- from a loss to its window -/
theorem win_of {k : Nat} (k1 : 1 ≤ k) (p : 0 < h.lostZ (x + h.needN a k)) : ∃ n j, Win.At (widesR h l h.needs.length) ⟨h.needs.sum % h.drops, h.drops, highsR h l a x h.needs.length⟩ n j ∧ n ≤ (k - 1) / h.needs.length ∧ j / l.length = (k - 1) % h.needs.length ∧ j < h.needs.length * l.length := by
  obtain ⟨low, ml, c⟩ := (lost_iff hL hN ho hd hm0 o _).mp p
  obtain ⟨i, hi, ei⟩ := List.getElem_of_mem ml
  have md := Nat.div_add_mod (k - 1) h.needs.length
  have ml2 := Nat.mod_lt (k - 1) n0
  rw [Nat.mul_comm] at md
  have j1 : ((k - 1) % h.needs.length * l.length + i) / l.length = (k - 1) % h.needs.length := by
    rw [Nat.add_comm, Nat.add_mul_div_right _ _ l0, Nat.div_eq_of_lt hi, Nat.zero_add]
  have j2 : ((k - 1) % h.needs.length * l.length + i) % l.length = i := by
    rw [Nat.add_comm, Nat.add_mul_mod_self_right, Nat.mod_eq_of_lt hi]
  have lt : (k - 1) % h.needs.length * l.length + i < h.needs.length * l.length := by
    have : ((k - 1) % h.needs.length + 1) * l.length ≤ h.needs.length * l.length := Nat.mul_le_mul_right _ ml2
    rw [Nat.add_mul, Nat.one_mul] at this
    omega
  have el : l[((k - 1) % h.needs.length * l.length + i) % l.length]? = some low := by rw [j2, List.getElem?_eq_getElem hi, ei]
  have H := (win_hit hL hN ho hd hm0 o n0 l0 qu ((k - 1) / h.needs.length) _ lt el).mpr (by
    rw [j1, show (k - 1) / h.needs.length * h.needs.length + ((k - 1) % h.needs.length + 1) = k by omega]
    exact c)
  obtain ⟨n, ln, F⟩ := Win.first_of H
  obtain ⟨low', el', _, f1, f2⟩ := highs_at (h := h) (l := l) (a := a) (x := x) l0 lt
  rw [el] at el'
  cases el'
  exact ⟨n, _, ⟨_, _, f1, f2, F⟩, ln, j1, lt⟩
theorem win_some {n j : Nat} (la : Win.LAt (widesR h l h.needs.length) ⟨h.needs.sum % h.drops, h.drops, highsR h l a x h.needs.length⟩ n j) : h.LossT a x (n * h.needs.length + j / l.length + 1) := by
  obtain ⟨⟨hh, w, e1, e2, F⟩, least⟩ := la
  have e1 : (highsR h l a x h.needs.length)[j]? = some hh := e1
  have lt : j < h.needs.length * l.length := by
    have := (List.getElem?_eq_some_iff.mp e2).1
    rwa [wides_len] at this
  obtain ⟨low, el, ml, f1, f2⟩ := highs_at (h := h) (l := l) (a := a) (x := x) l0 lt
  rw [f1] at e1
  rw [f2] at e2
  cases e1
  cases e2
  have lf : j / l.length < h.needs.length := Nat.div_lt_of_lt_mul (by rw [Nat.mul_comm]; exact lt)
  refine ⟨Nat.succ_le_succ (Nat.zero_le _), fun k k1 k2 => ?_, ?_⟩
  · refine Int.le_antisymm (Int.not_lt.mp fun p => ?_) (lostZ_nn hL hN ho hd _)
    obtain ⟨n', j', A, ln, ej, lj⟩ := win_of hL hN ho hd hm0 o n0 l0 qu k1 p
    have md := Nat.div_add_mod (k - 1) h.needs.length
    have ml2 := Nat.mod_lt (k - 1) n0
    rw [Nat.mul_comm] at md
    rcases least n' j' A with c | ⟨c, c2⟩
    · have : (n + 1) * h.needs.length ≤ (k - 1) / h.needs.length * h.needs.length := Nat.mul_le_mul_right _ (by omega)
      rw [Nat.add_mul, Nat.one_mul] at this
      omega
    · have d : j / l.length ≤ j' / l.length := Nat.div_le_div_right c2
      have : n * h.needs.length ≤ (k - 1) / h.needs.length * h.needs.length := Nat.mul_le_mul_right _ (by omega)
      omega
  · have := (win_hit hL hN ho hd hm0 o n0 l0 qu n j lt el).mp F.1
    rw [← Nat.add_assoc] at this
    exact (lost_iff hL hN ho hd hm0 o _).mpr ⟨low, ml, this⟩
theorem win_none (z : ∀ n j, ¬ Win.At (widesR h l h.needs.length) ⟨h.needs.sum % h.drops, h.drops, highsR h l a x h.needs.length⟩ n j) (k : Nat) : h.Quiet a x k := fun j j1 j2 => by
  refine Int.le_antisymm (Int.not_lt.mp fun p => ?_) (lostZ_nn hL hN ho hd _)
  obtain ⟨n', j', A, _⟩ := win_of hL hN ho hd hm0 o n0 l0 qu j1 p
  exact z _ _ A
end
end Hill
end Hz
set_option Elab.async false
set_option linter.all false
set_option maxRecDepth 100000
set_option maxHeartbeats 4000000
namespace Z64
open PySem PySem.Spec PyProof.Rows L2 Hz Hz.Win
section
variable {P : Program} {w : World} {K : PySem.W.Frag} {mg : Str → Option Value} {base : Heap}
local macro_rules | `(tactic| walk_at "un") => `(tactic| dsimp only [tSeq, tIfS, tRet, tAsg, tDrop, tOr, tAnd, tNot, tAndV, tOrV, tNotV, tTest, tB, tOp, tUn, tCB, tCons, tNil, tC, tNext, tIf, tChain, gName, tPar, tPar3, tTup, tLst])
theorem ok_ring_needs (T : Txt K mg) : FnOk P w K mg base CX0 1 T.a_ring_needs T.d_ring_needs P_ring_needs (spHill K fun h => .int h.needs.sum) := by
  have nd := sc_ring_needs.nd
  refine T.F_ring_needs.ok sc_ring_needs (fun vs H Q E h => ?_) (fun cdv A outer s H vs Q E hr h => ?_)
  · obtain ⟨t, h, v, rfl, _⟩ := h
    rfl
  · obtain ⟨t, h, v, rfl, hD, hk, q⟩ := h
    refine ⟨_, (pss_one (ps_ret (pe_callB (sumK K) (by rfl) T.z_sum (by decide +kernel) (pa_cons (pe_ix (ixK K) (pv 0) pe_int (fun _ _ => rfl)) pa_nil)))), ?_⟩
    refine ⟨_, rfl, z_ixD hD (Le.refl _) (j := 1) rfl rfl fun u hu => ?_⟩
    obtain ⟨a, xs, rfl, hS, hA⟩ := dp_sq hu
    have e := dpa_ints hA
    subst e
    exact ⟨a, _, rfl, hS.sq, q H (Ex.refl _ _)⟩
theorem ring_le {h : Hill} (hk : HillOk h) : h.needs.sum ≤ 20 * 10 ^ 14 ∧ 0 ≤ h.needs.sum := by
  have n2 := hk.n2
  have h1 := sum_le (l := h.needs) (z := 10 ^ 14) (by decide) fun x hx => (hk.n0 x hx).2
  have h2 : 0 ≤ h.needs.sum := by
    have : ∀ l : List Int, (∀ m ∈ l, 0 ≤ m) → 0 ≤ l.sum := fun l => by
      induction l with
      | nil => intro _; simp
      | cons a l ih =>
        intro z
        have := z a (List.mem_cons_self ..)
        have := ih fun m hm => z m (List.mem_cons_of_mem _ hm)
        rw [List.sum_cons]
        omega
    exact this _ hk.nn0
  have t : (10 : Int) ^ 14 = 100000000000000 := by decide
  exact ⟨by omega, h2⟩
/-- what so many ants need -/
def spNeeded (K : PySem.W.Frag) : Sp := fun vs H Q _ => ∃ (t : Bool) (h : Hill) (v : V) (a k : Nat), vs = [v, .int a, .int k] ∧ Dp K H v (h.dat t) ∧ HillOk h ∧ ∀ H', Ex [] H H' → Q (.int (h.needN a k)) H'
theorem ok_needed (T : Txt K mg) : FnOk P w K mg base CX0 2 T.a_needed T.d_needed P_needed (spNeeded K) := by
  have nd := sc_needed.nd
  have G_ring_needs := ok_ring_needs (P := P) (w := w) (base := base) T
  refine T.F_needed.ok sc_needed (fun vs H Q E h => ?_) (fun cdv A outer s H vs Q E hr h => ?_)
  · obtain ⟨t, h, v, a, k, rfl, _⟩ := h
    rfl
  · obtain ⟨t, h, v, a, k, rfl, hD, hk, q⟩ := h
    have hr_ring_needs := hr
    have n1 := hk.n1
    have n2 := hk.n2
    have t14 : (10 : Int) ^ 14 = 100000000000000 := by decide
    have p64 : (2 : Int) ^ 64 = 18446744073709551616 := by decide
    have rl := ring_le hk
    refine ⟨_, (pss_cons (ps_set (i := 3) nd rfl (Or.inr rfl) (pe_ix (ixK K) (pv 0) pe_int (fun _ _ => rfl)))
      (pss_cons (ps_asg (pe_callB call_divmodW (by rfl) T.z_divmod (by decide +kernel) (pa_cons (pv 2) (pa_cons (pe_callB (lenK K) (by rfl) T.z_len (by decide +kernel) (pa_cons (pv 3) pa_nil)) pa_nil))) (pg_tupK K 2 (by rfl) (pgs_cons (pg_name (i := 4) nd rfl (Or.inl rfl)) (pgs_cons (pg_name (i := 5) nd rfl (Or.inl rfl)) pgs_nil))))
      (pss_one (ps_ret (pe_op op_add (pe_op op_mul (pv 4) (pe_call G_ring_needs hr_ring_needs (by rfl) T.m_ring_needs T.k_ring_needs T.b_ring_needs .nil pass0 (pa_cons (pv 0) pa_nil))) (pe_callB (sumK K) (by rfl) T.z_sum (by decide +kernel) (pa_cons (pe_lc (own := [("past", 6)]) (by rfl) nd (pi_range1 (by rfl) T.z_range (pa_cons (pv 5) pa_nil)) (blkOk_by (N := N_needed) (own := [("past", 6)]) (sc := defScope s_needed) (by decide +kernel)) (fun _ _ _ _ _ => pg_name (i := 6) nd rfl (Or.inl rfl)) (fun _ _ _ _ _ => pts_nil) (fun _ _ _ _ _ => (pe_ix (ixK K) (pv 3) (pe_op op_mod (pe_op op_add (pv 1) (pv 6)) (pe_callB (lenK K) (by rfl) T.z_len (by decide +kernel) (pa_cons (pv 3) pa_nil))) (fun _ _ => rfl)))) pa_nil))))))), ?_⟩
    walk_at "un"
    refine ⟨_, rfl, z_ixD hD (Le.refl _) (j := 1) rfl rfl fun u hu => ?_⟩
    obtain ⟨ya, ys, rfl, hyS, hyA⟩ := dp_sq hu
    have e := dpa_ints hyA
    subst e
    have ly : (h.needs.map V.int).length = h.needs.length := List.length_map ..
    refine ⟨_, rfl, _, rfl, _, _, rfl, hyS.sq, ?_⟩
    rw [ly]
    refine ⟨_, _, rfl, divp_of (by omega) (by have : (10 : Int) ^ 60 = 1000000000000000000000000000000000000000000000000000000000000 := by decide
                                              omega), fun p hp => ?_⟩
    have x1 : Ex [] H (upd H p (.tup [.int ((k : Int) / (h.needs.length : Int)), .int ((k : Int) % (h.needs.length : Int))])) := Ex.new hp
    refine ⟨p, _, rfl, SqT.of upd_same, rfl, _, _, rfl, _, _, rfl, rfl, ?_⟩
    refine ⟨_, rfl, _, rfl, t, h, v, rfl, dp_le x1.le0 _ _ hD, hk, fun H2 x2 => ?_⟩
    refine ⟨_, _, rfl, rfl, .inr ⟨by omega, by omega⟩, ?_⟩
    have em : (k : Int) % (h.needs.length : Int) = ((k % h.needs.length : Nat) : Int) := (Int.natCast_emod ..).symm
    have lm : k % h.needs.length < h.needs.length := Nat.mod_lt _ n1
    walk_at "un"
    refine z_lcN (lo := 0) (n := k % h.needs.length) (fun R r => ⟨_, rfl, ((k % h.needs.length : Nat) : Int), by rw [em], by omega, by omega, r H2 (Ex.refl _ _)⟩) (by omega) (fun i => V.int (h.need ((a + i) % h.needs.length))) (fun i H' hi e1 N hN => ?_) (fun D H' hD' hz e1 => ?_)
    · rw [Int.zero_add]
      have hyS' := le_x (x1.trans (x2.trans e1)).le0 hyS
      refine ⟨rfl, _, rfl, _, rfl, _, rfl, _, _, rfl, rfl, _, rfl, _, _, rfl, hyS'.sq, _, _, rfl, rfl, by rw [ly]; show (0 : Int) < _; omega, ?_⟩
      dsimp only
      rw [ly]
      have lt := Nat.mod_lt (a + i) n1
      refine z_ix hyS'.sq (v := .int (h.need ((a + i) % h.needs.length))) ?_ (hN _ (Ex.refl _ _))
      rw [show ((a : Int) + (i : Int)) % (h.needs.length : Int) = (((a + i) % h.needs.length : Nat) : Int) by rw [Int.natCast_emod]; rfl]
      refine atI_nat ?_
      rw [List.getElem?_map]
      unfold Hill.need
      rw [List.getElem?_eq_getElem lt]
      rfl
    · refine ⟨_, _, rfl, .inl (SqL.of (xs := ((List.range (k % h.needs.length)).map fun i => h.need ((a + i) % h.needs.length)).map V.int) (by rw [hz, List.map_map]; rfl)), ?_⟩
      refine ⟨_, _, rfl, rfl, ?_⟩
      have es : ∀ f, ((List.range f).map fun i => h.need ((a + i) % h.needs.length)).sum = h.needN a f := fun f => by
        induction f with
        | zero => rfl
        | succ f ih =>
          rw [List.range_succ, List.map_append, List.sum_append, ih]
          show _ + ((h.need ((a + f) % _)) + 0) = h.needN a f + h.need ((a + f) % _)
          omega
      have := q H' (x1.trans (x2.trans e1))
      rw [show h.needN a k = h.needN a (k / h.needs.length * h.needs.length + k % h.needs.length) by rw [Nat.mul_comm, Nat.div_add_mod], Hill.needN_rounds h n1, ← es] at this
      rw [Int.natCast_ediv] at this
      exact this
/-- in which turn something is lost first -/
def spLossT (K : PySem.W.Frag) : Sp := fun vs H Q _ => ∃ (t : Bool) (h : Hill) (v : V) (l : List Int) (us : List V) (p : Addr) (a : Nat) (x : Int), vs = [v, .ref p, .int a, .int x] ∧ Dp K H v (h.dat t) ∧ HillOk h ∧ h.Lows l ∧ SqL K H p us ∧ DpAll K H us (l.map (stD h)) ∧ a < h.needs.length ∧
  (∀ H', (∀ k, h.Quiet a x k) → Ex [] H H' → Q .non H') ∧ ∀ (n : Nat) H', h.LossT a x n → Ex [] H H' → Q (.int n) H'
theorem st_at {G : Hp} {h : Hill} {l : List Int} {us : List V} {k : Nat} {y : V} (hA : DpAll K G us (l.map (stD h))) (e : us[k]? = some y) : ∃ low q, l[k]? = some low ∧ y = .ref q ∧ SqT K G q [.int low, .int (low + h.lostZ low - 1)] := by
  obtain ⟨d, hd, hD⟩ := dpa_get' hA e
  rw [List.getElem?_map] at hd
  obtain ⟨low, el, rfl⟩ := Option.map_eq_some_iff.mp hd
  obtain ⟨q, ys, rfl, hS, hA'⟩ := dp_tup (show Dp K G y (.tuple [.int low, .int (low + h.lostZ low - 1)]) from hD)
  have e := dpa_ints (ns := [low, low + h.lostZ low - 1]) hA'
  subst e
  exact ⟨low, q, el, rfl, hS⟩
theorem ok_loss_turn (T : Txt K mg) : FnOk P w K mg base CX0 3 T.a_loss_turn T.d_loss_turn P_loss_turn (spLossT K) := by
  have nd := sc_loss_turn.nd
  have G_ring_needs := ok_ring_needs (P := P) (w := w) (base := base) T
  have G_year_drops := ok_year_drops (P := P) (w := w) (base := base) T
  have G_needed := ok_needed (P := P) (w := w) (base := base) T
  have G_least_steps := ok_least_steps (P := P) (w := w) (base := base) T
  refine T.F_loss_turn.ok sc_loss_turn (fun vs H Q E h => ?_) (fun cdv A outer s H vs Q E hr h => ?_)
  · obtain ⟨t, h, v, l, us, p, a, x, rfl, _⟩ := h
    rfl
  · obtain ⟨t, h, v, l, us, p, a, x, rfl, hD, hk, hl, hS, hA, ha, qn, q⟩ := h
    have hr_ring_needs := hr.mono (show 1 ≤ 2 by decide)
    have hr_year_drops := hr.mono (show 1 ≤ 2 by decide)
    have hr_needed := hr
    have hr_least_steps := hr
    have n1 := hk.n1
    have n2 := hk.n2
    have dr := hk.dr
    have dm := hk.dm
    have rl := ring_le hk
    have len := Hill.lows_len hk.L0 hk.nn hk.op hk.dr hk.m0 hl
    have hL20 : h.L ≤ 20 := hk.y2
    have lu := dpa_len hA
    rw [List.length_map] at lu
    refine ⟨_, (pss_cons (ps_asg (pe_tup (pa_cons (pe_callB (lenK K) (by rfl) T.z_len (by decide +kernel) (pa_cons (pe_ix (ixK K) (pv 0) pe_int (fun _ _ => rfl)) pa_nil)) (pa_cons (pe_call G_year_drops hr_year_drops (by rfl) T.m_year_drops T.k_year_drops T.b_year_drops .nil pass0 (pa_cons (pv 0) pa_nil)) pa_nil))) (pg_tupK K 2 (by rfl) (pgs_cons (pg_name (i := 4) nd rfl (Or.inl rfl)) (pgs_cons (pg_name (i := 5) nd rfl (Or.inr rfl)) pgs_nil))))
      (pss_cons (ps_setLc (i := 6) (own := [("low", 13), ("high", 14)]) (by rfl) nd rfl rfl (sw_true rfl rfl rfl (by decide +kernel)) (pi_seqK K (pv 1)) (blkOk_by (N := N_loss_turn) (own := [("low", 13), ("high", 14)]) (sc := defScope s_loss_turn) (by decide +kernel)) (fun _ _ _ _ _ => (pg_tupK K 2 (by rfl) (pgs_cons (pg_name (i := 13) nd rfl (Or.inl rfl)) (pgs_cons (pg_name (i := 14) nd rfl (Or.inl rfl)) pgs_nil)))) (fun _ _ _ _ _ => pts_nil) (fun _ _ _ _ _ => (pe_op op_sub (pv 14) (pv 13))))
      (pss_cons (ps_set (i := 7) nd rfl (Or.inl rfl) (pe_lst pa_nil))
      (pss_cons (ps_for PassesOwn.never rfl (pi_range2W (by rfl) T.z_range (pa_cons pe_int (pa_cons (pe_op op_add (pv 4) pe_int) pa_nil))) (pg_name (i := 8) nd rfl (Or.inl rfl)) (pss_cons (ps_set (i := 9) nd rfl (Or.inr rfl) (pe_op op_add (pv 3) (pe_call G_needed hr_needed (by rfl) T.m_needed T.k_needed T.b_needed .nil pass0 (pa_cons (pv 0) (pa_cons (pv 2) (pa_cons (pv 8) pa_nil))))))
      (pss_cons (ps_if (pt_val (pe_callB (anyK K) (by rfl) T.z_any (by decide +kernel) (pa_cons (pe_lc (own := [("low", 13), ("high", 14)]) (by rfl) nd (pi_seqK K (pv 1)) (blkOk_by (N := N_loss_turn) (own := [("low", 13), ("high", 14)]) (sc := defScope s_loss_turn) (by decide +kernel)) (fun _ _ _ _ _ => (pg_tupK K 2 (by rfl) (pgs_cons (pg_name (i := 13) nd rfl (Or.inl rfl)) (pgs_cons (pg_name (i := 14) nd rfl (Or.inl rfl)) pgs_nil)))) (fun _ _ _ _ _ => pts_nil) (fun _ _ _ _ _ => (pe_cmpR op_le (pe_op op_mod (pe_op op_sub (pv 9) (pv 13)) (pv 5)) (pe_op op_sub (pv 14) (pv 13)) (nomark _)))) pa_nil))) (pss_one (ps_ret (pv 8))) pss_nil)
      (pss_one (ps_expr (pe_bm PySem.F.plainAttrs_list PySem.F.slot_list_extend PySem.F.type_list_extend mt_extend (pv 7) (pa_cons (pe_lc (own := [("low", 13), ("high", 14)]) (by rfl) nd (pi_seqK K (pv 1)) (blkOk_by (N := N_loss_turn) (own := [("low", 13), ("high", 14)]) (sc := defScope s_loss_turn) (by decide +kernel)) (fun _ _ _ _ _ => (pg_tupK K 2 (by rfl) (pgs_cons (pg_name (i := 13) nd rfl (Or.inl rfl)) (pgs_cons (pg_name (i := 14) nd rfl (Or.inl rfl)) pgs_nil)))) (fun _ _ _ _ _ => pts_nil) (fun _ _ _ _ _ => (pe_op op_sub (pe_op op_add (pe_op op_mod (pe_op op_sub (pv 13) (pv 9)) (pv 5)) (pv 14)) (pv 13)))) pa_nil)))))))
      (pss_cons (ps_set (i := 10) nd rfl (Or.inl rfl) (pe_call G_least_steps hr_least_steps (by rfl) T.m_least_steps T.k_least_steps T.b_least_steps .nil pass0 (pa_cons (pv 7) (pa_cons (pe_op op_rep (pv 6) (pv 4)) (pa_cons (pe_op op_mod (pe_call G_ring_needs hr_ring_needs (by rfl) T.m_ring_needs T.k_ring_needs T.b_ring_needs .nil pass0 (pa_cons (pv 0) pa_nil)) (pv 5)) (pa_cons (pv 5) pa_nil))))))
      (pss_cons (ps_if (pt_cmpR op_isN (pv 10) pe_non (nomark _)) (pss_one (ps_ret pe_non)) pss_nil)
      (pss_cons (ps_asg (pv 10) (pg_seqK K 2 (by rfl) (pgs_cons (pg_name (i := 11) nd rfl (Or.inl rfl)) (pgs_cons (pg_name (i := 12) nd rfl (Or.inl rfl)) pgs_nil))))
      (pss_one (ps_ret (pe_op op_add (pe_op op_add (pe_op op_mul (pv 11) (pv 4)) (pe_op op_fdivW (pv 12) (pe_callB (lenK K) (by rfl) T.z_len (by decide +kernel) (pa_cons (pv 1) pa_nil)))) pe_int)))))))))), ?_⟩
    walk_at "un"
    refine ⟨_, rfl, z_ixD hD (Le.refl _) (j := 1) rfl rfl fun u hu => ?_⟩
    obtain ⟨ya, ys, rfl, hyS, hyA⟩ := dp_sq hu
    have e := dpa_ints hyA
    subst e
    refine ⟨_, _, rfl, hyS.sq, ?_⟩
    rw [show (h.needs.map V.int).length = h.needs.length from List.length_map ..]
    refine ⟨_, rfl, t, h, v, rfl, hD, hk, fun H1 x1 => ⟨show 2 ≤ sizeLine by decide, fun p1 hp1 => ?_⟩⟩
    have x2 := x1.trans (Ex.new (B := []) (o := .tup [.int h.needs.length, .int h.drops]) hp1)
    refine ⟨p1, _, rfl, SqT.of upd_same, rfl, _, _, rfl, _, _, rfl, rfl, ?_⟩
    walk_at "un"
    refine z_lcP1 (t := false) (xs := us) (fun R r => ⟨_, rfl, r p _ (Ex.refl _ _) (le_l x2.le0 hS)⟩) (by omega) (fun k => ((l[k]?).map fun low => V.int (h.lostZ low - 1)).getD .non) (fun k y H2 hy y2 N hN => ?_) (fun D H2 hD2 hz y2 => ?_)
    · obtain ⟨low, q', el, rfl, hT⟩ := st_at hA hy
      refine ⟨q', _, rfl, le_t (x2.trans y2).le0 hT, rfl, _, _, rfl, _, _, rfl, rfl, rfl, _, rfl, _, rfl, _, _, rfl, rfl, ?_⟩
      have := hN H2 (Ex.refl _ _)
      rw [el] at this
      dsimp only
      rw [show low + h.lostZ low - 1 - low = h.lostZ low - 1 by omega]
      exact this
    rw [lu, map_at] at hz
    have x3 := x2.trans y2
    refine ⟨Nat.zero_le _, fun HL hHL => ?_⟩
    have x4 := x3.trans (Ex.new (B := []) (o := .lst []) hHL)
    refine ⟨_, rfl, _, _, rfl, rfl, _, _, rfl, ?_⟩
    rw [show ((h.needs.length : Int) + 1 - 1).toNat = h.needs.length by omega]
    have hDL : ∀ {G : Hp}, Ex [] (upd H2 HL (.lst [])) G → G D = some (.lst (l.map fun low => V.int (h.lostZ low - 1))) := fun e => ((Ex.new (B := []) (o := .lst []) hHL).trans e).get (by simp) hz
    refine for_range (lo := 1) (n := h.needs.length) (fun i σ H' => ∃ u8 u9 : Option V, σ = [some v, some (.ref p), some (.int a), some (.int x), some (.int h.needs.length), some (.int h.drops), some (.ref D), some (.ref HL), u8, u9, none, none, none, none, none] ∧ H' HL = some (.lst ((Hill.highsR h l a x i).map V.int)) ∧ h.Quiet a x i ∧ Ex [] H2 H')
      ⟨_, _, rfl, upd_same, fun j h1 h2 => by omega, Ex.new hHL⟩ (fun i σ H' hi hP => ?_) (fun σ H' hP => ?_)
    · obtain ⟨u8, u9, rfl, hH, hQ, y3⟩ := hP
      walk_at "un"
      have x5 := x3.trans y3
      refine ⟨_, rfl, _, rfl, _, rfl, _, rfl, t, h, v, a, i + 1, by rw [show (1 : Int) + (i : Int) = ((i + 1 : Nat) : Int) by omega]; rfl, dp_le x5.le0 _ _ hD, hk, fun H3 x6 => ?_⟩
      refine ⟨_, _, rfl, rfl, ?_⟩
      have x7 := x5.trans x6
      walk_at "un"
      refine z_lcP1 (t := false) (xs := us) (fun R r => ⟨_, rfl, r p _ (Ex.refl _ _) (le_l x7.le0 hS)⟩) (by omega) (fun k => ((l[k]?).map fun low => V.bl (decide ((x + h.needN a (i + 1) - low) % h.drops ≤ h.lostZ low - 1))).getD .non) (fun k y H4 hy y4 N hN => ?_) (fun D4 H4 hD4 hz4 y4 => ?_)
      · obtain ⟨low, q', el, rfl, hT⟩ := st_at hA hy
        refine ⟨q', _, rfl, le_t (x7.trans y4).le0 hT, rfl, _, _, rfl, _, _, rfl, rfl, rfl, ?_⟩
        refine ⟨_, rfl, _, rfl, _, _, rfl, rfl, _, rfl, _, _, rfl, rfl, (by show (0 : Int) < h.drops; exact dr), _, rfl, _, rfl, _, _, rfl, rfl, _, _, rfl, rfl, ?_⟩
        have := hN H4 (Ex.refl _ _)
        rw [el] at this
        dsimp only
        rw [show low + h.lostZ low - 1 - low = h.lostZ low - 1 by omega]
        exact this
      rw [lu, map_at] at hz4
      have x8 := x7.trans y4
      refine ⟨D4, l.map fun low => decide ((x + h.needN a (i + 1) - low) % h.drops ≤ h.lostZ low - 1), rfl, SqL.of (by rw [hz4, List.map_map]; rfl), ?_⟩
      have hany : (l.map fun low => decide ((x + h.needN a (i + 1) - low) % h.drops ≤ h.lostZ low - 1)).any id = true ↔ 0 < h.lostZ (x + h.needN a (i + 1)) := by
        rw [Hill.lost_iff hk.L0 hk.nn hk.op hk.dr hk.m0 hl, List.any_eq_true]
        constructor
        · rintro ⟨b, hb, e⟩
          obtain ⟨low, hl', rfl⟩ := List.mem_map.mp hb
          exact ⟨low, hl', of_decide_eq_true e⟩
        · rintro ⟨low, hl', c⟩
          exact ⟨_, List.mem_map.mpr ⟨low, hl', rfl⟩, decide_eq_true c⟩
      cases eb : (l.map fun low => decide ((x + h.needN a (i + 1) - low) % h.drops ≤ h.lostZ low - 1)).any id with
      | true =>
        refine ⟨_, rfl, iteT ⟨_, rfl, ?_⟩⟩
        rw [show (1 : Int) + (i : Int) = ((i + 1 : Nat) : Int) by omega]
        exact q (i + 1) H4 ⟨by omega, by rw [Nat.add_sub_cancel]; exact hQ, hany.mp eb⟩ x8
      | false =>
        have nol : ¬ 0 < h.lostZ (x + h.needN a (i + 1)) := fun z => by rw [hany.mpr z] at eb; cases eb
        refine ⟨_, rfl, iteF ?_⟩
        have hH4 : H4 HL = some (.lst ((Hill.highsR h l a x i).map V.int)) := (x6.trans y4).get (by simp) hH
        refine ⟨_, rfl, .inl ⟨rfl, _, SqL.of hH4⟩, ?_⟩
        refine z_lcP1 (t := false) (xs := us) (fun R r => ⟨_, rfl, r p _ (Ex.refl _ _) (le_l x8.le0 hS)⟩) (by omega) (fun k => ((l[k]?).map fun low => V.int ((low - (x + h.needN a (i + 1))) % h.drops + (h.lostZ low - 1))).getD .non) (fun k y H5 hy y5 N hN => ?_) (fun D5 H5 hD5 hz5 y5 => ?_)
        · obtain ⟨low, q', el, rfl, hT⟩ := st_at hA hy
          refine ⟨q', _, rfl, le_t (x8.trans y5).le0 hT, rfl, _, _, rfl, _, _, rfl, rfl, rfl, ?_⟩
          refine ⟨_, rfl, _, rfl, _, _, rfl, rfl, _, rfl, _, _, rfl, rfl, (by show (0 : Int) < h.drops; exact dr), _, rfl, _, _, rfl, rfl, _, rfl, _, _, rfl, rfl, ?_⟩
          have := hN H5 (Ex.refl _ _)
          rw [el] at this
          dsimp only
          rw [show ∀ z : Int, z + (low + h.lostZ low - 1) - low = z + (h.lostZ low - 1) from fun z => by omega]
          exact this
        rw [lu, map_at] at hz5
        have hH5 : H5 HL = some (.lst ((Hill.highsR h l a x i).map V.int)) := y5.get (by simp) hH4
        have hlen := Hill.highs_len (h := h) (l := l) (a := a) (x := x) i
        have hmul : i * l.length ≤ 20 * 20 := Nat.mul_le_mul (by omega) (by omega)
        refine ⟨HL, D5, _, _, rfl, rfl, hH5, hz5, by rw [List.length_map, List.length_map, hlen]; exact sz_of (by omega), ?_⟩
        refine ⟨_, _, rfl, by rw [upd_same]; unfold Hill.highsR; rw [List.range_succ, List.flatMap_append, List.map_append]; simp [Hill.highsF], fun j j1 j2 => ?_, ((y3.trans x6).trans (y4.trans y5)).mutNew' hHL⟩
        by_cases c : j ≤ i
        · exact hQ j j1 c
        · rw [show j = i + 1 by omega]
          have := Hill.lostZ_nn hk.L0 hk.nn hk.op hk.dr (x + h.needN a (i + 1))
          omega
    · obtain ⟨u8, u9, rfl, hH, hQ, y3⟩ := hP
      walk_at "un"
      have x5 := x3.trans y3
      have hDW : H' D = some (.lst (l.map fun low => V.int (h.lostZ low - 1))) := y3.get (by simp) hz
      have hmul : h.needs.length * l.length ≤ 20 * 20 := Nat.mul_le_mul (by omega) (by omega)
      have p63 : (2 : Int) ^ 63 = 9223372036854775808 := by decide
      refine ⟨_, rfl, _, rfl, _, rfl, D, (h.needs.length : Int), _, rfl, rfl, hDW, by omega, by omega, ?_, fun p3 hp3 => ?_⟩
      · rw [List.length_map, Int.toNat_natCast, Nat.mul_comm]
        exact sz_of (by omega)
      have ew : (List.replicate (h.needs.length : Int).toNat (l.map fun low => V.int (h.lostZ low - 1))).flatten = (Hill.widesR h l h.needs.length).map V.int := by
        rw [Int.toNat_natCast, rep_flat]
        unfold Hill.widesR
        rw [List.map_flatMap]
        congr 1
        funext _
        unfold Hill.widesF
        rw [List.map_map]
        rfl
      have x6 := x5.trans (Ex.new (B := []) (o := .lst (List.replicate (h.needs.length : Int).toNat (l.map fun low => V.int (h.lostZ low - 1))).flatten) hp3)
      refine ⟨_, rfl, t, h, v, rfl, dp_le x6.le0 _ _ hD, hk, fun H3 x7 => ?_⟩
      refine ⟨_, rfl, _, _, rfl, rfl, (by show (0 : Int) < h.drops; exact dr), _, rfl, ?_⟩
      have hH3 : H3 HL = some (.lst ((Hill.highsR h l a x h.needs.length).map V.int)) := x7.get (by simp) ((Ex.new (B := []) hp3).get (by simp) hH)
      have hp3' : H3 p3 = some (.lst ((Hill.widesR h l h.needs.length).map V.int)) := x7.get (by simp) (by rw [← ew]; exact upd_same)
      have xx := x6.trans x7
      have wlen := Hill.wides_len (h := h) (l := l) h.needs.length
      refine ⟨.ref HL, .ref p3, Hill.highsR h l a x h.needs.length, Hill.widesR h l h.needs.length, h.needs.sum % h.drops, h.drops, rfl, dp_il hH3, dp_il hp3', ?_, ?_, by omega, fun H4 no y4 => ?_, fun n j z H4 la hz4 y4 => ?_⟩
      · by_cases l0 : 0 < l.length
        · exact Hill.win_wf hk.L0 hk.nn hk.op hk.dr hk.m0 hl n1 l0 hQ
        · have e0 : l = [] := List.eq_nil_of_length_eq_zero (by omega)
          refine ⟨Int.emod_nonneg _ (Int.ne_of_gt dr), Int.emod_lt_of_pos _ dr, by rw [wlen]; exact Hill.highs_len _, fun {j hh w} e1 e2 => ?_⟩
          have := (List.getElem?_eq_some_iff.mp e2).1
          rw [wlen, e0] at this
          exact absurd this (by simp)
      · have : (10 : Int) ^ 50 = 100000000000000000000000000000000000000000000000000 := by decide
        omega
      · refine ⟨_, rfl, rfl, _, rfl, iteT (qn H4 (fun k => ?_) (xx.trans y4))⟩
        by_cases l0 : 0 < l.length
        · exact Hill.win_none hk.L0 hk.nn hk.op hk.dr hk.m0 hl n1 l0 hQ no k
        · have e0 : l = [] := List.eq_nil_of_length_eq_zero (by omega)
          intro j _ _
          exact Hill.Lows.without hk.L0 hk.nn hk.op hk.dr hk.m0 hl fun low hl' => by rw [e0] at hl'; cases hl'
      · obtain ⟨za, zs, rfl, hzS, hzA⟩ := dp_tup (show Dp K H4 z (.tuple [.int n, .int j]) from hz4)
        have e := dpa_ints (ns := [(n : Int), (j : Int)]) hzA
        subst e
        have l0 : 0 < l.length := by
          obtain ⟨_, _, _, e2, _⟩ := la.1
          have := (List.getElem?_eq_some_iff.mp e2).1
          rw [wlen] at this
          exact Nat.pos_of_ne_zero fun z => by rw [z, Nat.mul_zero] at this; omega
        have Lt := Hill.win_some hk.L0 hk.nn hk.op hk.dr hk.m0 hl n1 l0 hQ la
        refine ⟨_, rfl, rfl, _, rfl, iteF ?_⟩
        have p64 : (2 : Int) ^ 64 = 18446744073709551616 := by decide
        have p60 : (10 : Int) ^ 60 = 1000000000000000000000000000000000000000000000000000000000000 := by decide
        refine ⟨_, rfl, .inr ⟨za, _, rfl, hzS, rfl, _, _, rfl, _, _, rfl, rfl, ?_⟩⟩
        refine ⟨_, rfl, _, rfl, _, _, rfl, rfl, .inr ⟨by omega, by omega⟩, _, rfl, _, rfl, _, _, rfl, .inl (le_l (xx.trans y4).le0 hS), _, _, rfl, rfl, divw_of (by omega) (by omega), _, _, rfl, rfl, _, _, rfl, rfl, ?_⟩
        have := q _ H4 Lt (xx.trans y4)
        rw [show ((n * h.needs.length + j / l.length + 1 : Nat) : Int) = (n : Int) * (h.needs.length : Int) + (j : Int) / (us.length : Int) + 1 by rw [lu]; simp] at this
        exact this
def markD (m : Hill.Mk) : PyData := .tuple [.int m.t, .int m.a, .int m.y]
theorem mark_dp {G : Hp} {v : V} {m : Hill.Mk} (h : Dp K G v (markD m)) : ∃ q, v = .ref q ∧ SqT K G q [.int m.t, .int m.a, .int m.y] := by
  obtain ⟨q, ys, rfl, hS, hA⟩ := dp_tup (show Dp K G v (.tuple [.int m.t, .int m.a, .int m.y]) from h)
  have e := dpa_ints (ns := [(m.t : Int), (m.a : Int), m.y]) hA
  subst e
  exact ⟨q, rfl, hS⟩
/-- the next mark -/
def spMarkB (K : PySem.W.Frag) : Sp := fun vs H Q _ => ∃ (t : Bool) (h : Hill) (v : V) (l : List Int) (us : List V) (p : Addr) (m : Hill.Mk) (mv : V), vs = [v, .ref p, mv] ∧ Dp K H v (h.dat t) ∧ HillOk h ∧ h.Lows l ∧ SqL K H p us ∧ DpAll K H us (l.map (stD h)) ∧ Dp K H mv (markD m) ∧ m.a < h.needs.length ∧
  (∀ H', (∀ k, h.Quiet m.a m.y k) → Ex [] H H' → Q .non H') ∧ ∀ (m' : Hill.Mk) (q : Addr) H', h.Nx m m' → H q = none → H' q = some (.tup [.int m'.t, .int m'.a, .int m'.y]) → Ex [] H H' → Q (.ref q) H'
theorem ok_mark_behind (T : Txt K mg) : FnOk P w K mg base CX0 5 T.a_mark_behind T.d_mark_behind P_mark_behind (spMarkB K) := by
  have nd := sc_mark_behind.nd
  have G_loss_turn := ok_loss_turn (P := P) (w := w) (base := base) T
  have G_needed := ok_needed (P := P) (w := w) (base := base) T
  have G_lost_at := ok_lost_at (P := P) (w := w) (base := base) T
  refine T.F_mark_behind.ok sc_mark_behind (fun vs H Q E h => ?_) (fun cdv A outer s H vs Q E hr h => ?_)
  · obtain ⟨t, h, v, l, us, p, m, mv, rfl, _⟩ := h
    rfl
  · obtain ⟨t, h, v, l, us, p, m, mv, rfl, hD, hk, hl, hS, hA, hM, ha, qn, q⟩ := h
    have hr_loss_turn := hr.mono (show 3 ≤ 4 by decide)
    have hr_needed := hr.mono (show 2 ≤ 4 by decide)
    have hr_lost_at := hr
    have n1 := hk.n1
    refine ⟨_, (pss_cons (ps_asg (pv 2) (pg_seqK K 3 (by rfl) (pgs_cons (pg_name (i := 3) nd rfl (Or.inl rfl)) (pgs_cons (pg_name (i := 4) nd rfl (Or.inl rfl)) (pgs_cons (pg_name (i := 5) nd rfl (Or.inl rfl)) pgs_nil)))))
      (pss_cons (ps_set (i := 6) nd rfl (Or.inl rfl) (pe_call G_loss_turn hr_loss_turn (by rfl) T.m_loss_turn T.k_loss_turn T.b_loss_turn .nil pass0 (pa_cons (pv 0) (pa_cons (pv 1) (pa_cons (pv 4) (pa_cons (pv 5) pa_nil))))))
      (pss_cons (ps_if (pt_cmpR op_isN (pv 6) pe_non (nomark _)) (pss_one (ps_ret pe_non)) pss_nil)
      (pss_cons (ps_set (i := 7) nd rfl (Or.inl rfl) (pe_op op_add (pv 5) (pe_call G_needed hr_needed (by rfl) T.m_needed T.k_needed T.b_needed .nil pass0 (pa_cons (pv 0) (pa_cons (pv 4) (pa_cons (pv 6) pa_nil))))))
      (pss_one (ps_ret (pe_tup (pa_cons (pe_op op_add (pv 3) (pv 6)) (pa_cons (pe_op op_mod (pe_op op_add (pv 4) (pv 6)) (pe_callB (lenK K) (by rfl) T.z_len (by decide +kernel) (pa_cons (pe_ix (ixK K) (pv 0) pe_int (fun _ _ => rfl)) pa_nil))) (pa_cons (pe_op op_add (pv 7) (pe_call G_lost_at hr_lost_at (by rfl) T.m_lost_at T.k_lost_at T.b_lost_at .nil pass0 (pa_cons (pv 0) (pa_cons (pv 7) pa_nil)))) pa_nil)))))))))), ?_⟩
    walk_at "un"
    obtain ⟨ma, rfl, hmS⟩ := mark_dp hM
    refine ⟨_, rfl, .inr ⟨ma, _, rfl, hmS, rfl, _, _, rfl, _, _, rfl, _, _, rfl, rfl, ?_⟩⟩
    walk_at "un"
    refine ⟨_, rfl, _, rfl, _, rfl, _, rfl, t, h, v, l, us, p, m.a, m.y, rfl, hD, hk, hl, hS, hA, ha, fun H1 no x1 => ?_, fun n H1 Lt x1 => ?_⟩
    · exact ⟨_, rfl, rfl, _, rfl, iteT (qn H1 no x1)⟩
    · refine ⟨_, rfl, rfl, _, rfl, iteF ?_⟩
      refine ⟨_, rfl, _, rfl, _, rfl, _, rfl, t, h, v, m.a, n, rfl, dp_le x1.le0 _ _ hD, hk, fun H2 x2 => ?_⟩
      refine ⟨_, _, rfl, rfl, ?_⟩
      have x3 := x1.trans x2
      refine ⟨_, rfl, _, rfl, _, _, rfl, rfl, _, rfl, _, rfl, _, _, rfl, rfl, _, rfl, ?_⟩
      refine z_ixD (dp_le x3.le0 _ _ hD) (Le.refl _) (j := 1) rfl rfl fun u hu => ?_
      obtain ⟨ya, ys, rfl, hyS, hyA⟩ := dp_sq hu
      have e := dpa_ints hyA
      subst e
      refine ⟨_, _, rfl, hyS.sq, ?_⟩
      rw [show (h.needs.map V.int).length = h.needs.length from List.length_map ..]
      refine ⟨_, _, rfl, rfl, (by show (0 : Int) < (h.needs.length : Int); omega), _, rfl, _, rfl, _, rfl, t, h, v, _, rfl, dp_le x3.le0 _ _ hD, hk, fun z H3 lz x4 => ?_⟩
      refine ⟨_, _, rfl, rfl, show 3 ≤ sizeLine by decide, fun p2 hp2 => ?_⟩
      have ez := lz.z hk.L0 hk.nn
      subst ez
      have x5 := x3.trans x4
      refine q ⟨m.t + n, (m.a + n) % h.needs.length, h.ledN m.a m.y n⟩ p2 _ ⟨n, Lt, rfl⟩ (x5.free hp2) ?_ (x5.trans (Ex.new hp2))
      rw [upd_same]
      show some (HO.tup [.int ((m.t : Int) + n), .int (((m.a : Int) + n) % (h.needs.length : Int)), .int (m.y + h.needN m.a n + h.lostZ (m.y + h.needN m.a n))]) = some (HO.tup [.int ((m.t + n : Nat) : Int), .int (((m.a + n) % h.needs.length : Nat) : Int), .int (h.ledN m.a m.y n)])
      rw [Lt.led, Int.natCast_add, Int.natCast_emod, Int.natCast_add]
end
end Z64
set_option Elab.async false
set_option linter.all false
namespace Hz
namespace Hill
/-- where a mark stands, around the year -/
def key (h : Hill) (m : Mk) : Nat × Int := (m.a, m.y % h.drops)
theorem nodup_snoc {α : Type} {l : List α} {a : α} (n : l.Nodup) (h : a ∉ l) : (l ++ [a]).Nodup := by
  rw [List.nodup_append]
  exact ⟨n, by simp, fun x hx y hy => by rw [List.mem_singleton.mp hy]; exact fun z => h (z ▸ hx)⟩
section
variable {h : Hill} (hL : 0 < h.L) (hN : h.Nn) (ho : ∃ d, d ∈ h.year ∧ d.2 = true) (hd : 0 < h.drops) (hm0 : 0 ≤ h.most) (n0 : 0 < h.needs.length)
include hL hN ho hd hm0 n0
/-- behind a loss the line is just behind a stretch -/
theorem nx_key {l : List Int} (o : h.Lows l) {m m' : Mk} (x : h.Nx m m') : h.key m' ∈ (List.range h.needs.length).flatMap fun a => l.map fun low => (a, (low + h.lostZ low) % h.drops) := by
  obtain ⟨n, L, rfl⟩ := x
  obtain ⟨low, hl, c⟩ := (lost_iff hL hN ho hd hm0 o _).mp L.lost
  have w := Lows.within hL hN ho hd hm0 o hl c
  have a := Int.emod_add_mul_ediv (m.y + h.needN m.a n - low) h.drops
  refine List.mem_flatMap.mpr ⟨(m.a + n) % h.needs.length, List.mem_range.mpr (Nat.mod_lt _ n0), List.mem_map.mpr ⟨low, hl, ?_⟩⟩
  unfold key
  refine Prod.ext rfl ?_
  show _ = h.ledN m.a m.y n % h.drops
  rw [L.led, w]
  rw [show m.y + h.needN m.a n + (h.lostZ low - (m.y + h.needN m.a n - low) % h.drops) = low + h.lostZ low + ((m.y + h.needN m.a n - low) / h.drops) * h.drops by rw [Int.mul_comm]; omega, Int.add_mul_emod_self_right]
theorem marks_len {l : List Int} (o : h.Lows l) {ms : List Mk} (nx : ∀ {i m m'}, ms[i]? = some m → ms[i + 1]? = some m' → h.Nx m m') (nd : (ms.map h.key).Nodup) : ms.length ≤ h.needs.length * l.length + 1 := by
  cases ms with
  | nil => exact Nat.zero_le _
  | cons m0 ms =>
    rw [List.map_cons, List.nodup_cons] at nd
    have := nodup_le nd.2 (m := (List.range h.needs.length).flatMap fun a => l.map fun low => (a, (low + h.lostZ low) % h.drops)) fun k hk => by
      obtain ⟨m, hm, rfl⟩ := List.mem_map.mp hk
      obtain ⟨i, hi⟩ := List.getElem?_of_mem hm
      cases i with
      | zero => exact nx_key hL hN ho hd hm0 n0 o (nx (i := 0) rfl hi)
      | succ i =>
        have l2 : i < ms.length := by
          have := (List.getElem?_eq_some_iff.mp hi).1
          omega
        exact nx_key hL hN ho hd hm0 n0 o (nx (i := i + 1) (m := ms[i]) (List.getElem?_eq_getElem l2) hi)
    rw [flat_len (m := l.length) _ (fun g => by simp), List.length_map] at this
    rw [List.length_cons]
    omega
end
theorem key_eq {h : Hill} {m m' : Mk} (e : h.key m = h.key m') : m.a = m'.a ∧ ∃ k : Int, m.y = m'.y + k * h.drops := by
  unfold key at e
  injection e with e1 e2
  refine ⟨e1, m.y / h.drops - m'.y / h.drops, ?_⟩
  have a := Int.emod_add_mul_ediv m.y h.drops
  have b := Int.emod_add_mul_ediv m'.y h.drops
  rw [Int.sub_mul, Int.mul_comm (m.y / _), Int.mul_comm (m'.y / _)]
  omega
section
variable {h : Hill} (hL : 0 < h.L) (hN : h.Nn) (ho : ∃ d, d ∈ h.year ∧ d.2 = true) (hd : 0 < h.drops) (hm0 : 0 ≤ h.most) {A : Int} (hA : ∀ i, 0 ≤ h.need i ∧ h.need i ≤ A)
include hL hN ho hd hm0 hA
/-- a line goes on by needs at least, by needs and years at most -/
theorem ledN_bd (a : Nat) (x : Int) : ∀ n : Nat, x ≤ h.ledN a x n ∧ h.ledN a x n ≤ x + n * (A + h.drops)
  | 0 => ⟨Int.le_refl _, by show x ≤ x + 0 * _; rw [Int.zero_mul]; omega⟩
  | n + 1 => by
    obtain ⟨i1, i2⟩ := ledN_bd a x n
    have e : h.ledN a x (n + 1) = h.ledN a x n + h.need ((a + n) % h.needs.length) + h.lostZ (h.ledN a x n + h.need ((a + n) % h.needs.length)) := rfl
    have l := lost_lt hL hN hd hm0 (lostZ_spec hL hN ho hd (h.ledN a x n + h.need ((a + n) % h.needs.length)))
    have z := lostZ_nn hL hN ho hd (h.ledN a x n + h.need ((a + n) % h.needs.length))
    have b := hA ((a + n) % h.needs.length)
    rw [Int.natCast_add, Int.add_mul]
    omega
end
end Hill
/-- the last item that a row of tests lets through -/
theorem fm_last {β : Type} {f : Nat → Option β} {i0 : Nat} {d : β} (e : f i0 = some d) : ∀ n, i0 < n → (∀ i, i0 < i → i < n → f i = none) → ∃ L, (List.range n).filterMap f = L ++ [d]
  | 0, h, _ => absurd h (Nat.not_lt_zero _)
  | n + 1, h, no => by
    rw [List.range_succ, List.filterMap_append]
    by_cases c : i0 = n
    · subst c
      refine ⟨(List.range i0).filterMap f, ?_⟩
      rw [List.filterMap_cons, e, List.filterMap_nil]
    · obtain ⟨L, eL⟩ := fm_last e n (by omega) fun i h1 h2 => no i h1 (by omega)
      refine ⟨L, ?_⟩
      rw [List.filterMap_cons, no n (by omega) (by omega), List.filterMap_nil, List.append_nil, eL]
theorem fl_last {β : Type} {p : Nat → Bool} {f : Nat → β} {i0 : Nat} (e : p i0 = true) : ∀ n, i0 < n → (∀ i, i0 < i → i < n → p i = false) → ∃ L, ((List.range n).filter p).map f = L ++ [f i0]
  | 0, h, _ => absurd h (Nat.not_lt_zero _)
  | n + 1, h, no => by
    rw [List.range_succ, List.filter_append, List.map_append]
    by_cases c : i0 = n
    · subst c
      refine ⟨((List.range i0).filter p).map f, ?_⟩
      rw [List.filter_cons_of_pos e]
      rfl
    · obtain ⟨L, eL⟩ := fl_last e n (by omega) fun i h1 h2 => no i h1 (by omega)
      refine ⟨L, ?_⟩
      rw [List.filter_cons_of_neg (by rw [no n (by omega) (by omega)]; decide), List.filter_nil, List.map_nil, List.append_nil, eL]
/-- the last place of which something is so -/
theorem last_of {p : Nat → Prop} [DecidablePred p] : ∀ n, 0 < n → p 0 → ∃ i, i < n ∧ p i ∧ ∀ j, i < j → j < n → ¬ p j
  | 0, h, _ => absurd h (Nat.lt_irrefl _)
  | n + 1, _, z => by
    by_cases c : p n
    · exact ⟨n, by omega, c, fun j h1 h2 => by omega⟩
    · rcases Nat.eq_zero_or_pos n with e | e
      · subst e; exact absurd z c
      · obtain ⟨i, h1, h2, h3⟩ := last_of n e z
        refine ⟨i, by omega, h2, fun j h4 h5 => ?_⟩
        by_cases e2 : j = n
        · subst e2; exact c
        · exact h3 j h4 (by omega)
open PySem PyProof.Rows L2 in
theorem dpa_last {K : PySem.W.Frag} {G : L2.Hp} {zs : List L2.V} {L : List PySem.PyData} {d : PySem.PyData} (h : DpAll K G zs (L ++ [d])) : ∃ us z, zs = us ++ [z] ∧ Dp K G z d := by
  induction L generalizing zs with
  | nil =>
    cases h with
    | cons h1 h2 => cases h2; exact ⟨[], _, rfl, h1⟩
  | cons e L ih =>
    cases h with
    | cons h1 h2 =>
      obtain ⟨us, z, rfl, hz⟩ := ih h2
      exact ⟨_ :: us, z, rfl, hz⟩
end Hz
set_option Elab.async false
set_option linter.all false
set_option maxRecDepth 100000
set_option maxHeartbeats 4000000
namespace Z64
open PySem PySem.Spec PyProof.Rows L2 Hz Hz.Win
section
variable {P : Program} {w : World} {K : PySem.W.Frag} {mg : Str → Option Value} {base : Heap}
local macro_rules | `(tactic| walk_at "un") => `(tactic| dsimp only [tSeq, tIfS, tRet, tAsg, tDrop, tOr, tAnd, tNot, tAndV, tOrV, tNotV, tTest, tB, tOp, tUn, tCB, tCons, tNil, tC, tNext, tIf, tChain, gName, tPar, tPar3, tTup, tLst])
def agD : Option Nat → PyData
  | none => .none
  | some j => .int j
def wayD (ms : List Hill.Mk) (ag : Option Nat) : PyData := .tuple [.list (ms.map markD), agD ag]
def keyL (h : Hill) (m : Hill.Mk) : List Key := [.inl m.a, .inl (m.y % h.drops)]
theorem keyL_inj {h : Hill} {m m' : Hill.Mk} (e : keyL h m = keyL h m') : h.key m = h.key m' := by
  unfold keyL at e
  injection e with e1 e2
  injection e2 with e2 _
  injection e1 with e1
  injection e2 with e2
  unfold Hill.key
  rw [show m.a = m'.a by omega, e2]
/-- the numbers that the dict holds -/
structure Dic (h : Hill) (ms : List Hill.Mk) (kvs : List (List Key × V)) : Prop where
  len : kvs.length ≤ ms.length
  get : ∀ {k v}, valV kvs k = some v → ∃ (i : Nat) (m : Hill.Mk), ms[i]? = some m ∧ k = keyL h m ∧ v = .int i
  all : ∀ {m}, m ∈ ms → (valV kvs (keyL h m)).isSome = true
theorem Dic.snoc {h : Hill} {ms : List Hill.Mk} {kvs : List (List Key × V)} (d : Dic h ms kvs) (m : Hill.Mk) : Dic h (ms ++ [m]) (putK kvs (keyL h m) (.int (ms.length : Nat))) where
  len := by
    have := length_putK kvs (keyL h m) (.int (ms.length : Nat))
    have := d.len
    rw [List.length_append, List.length_singleton]
    omega
  get := fun {k v} e => by
    rw [valV_put] at e
    by_cases c : k = keyL h m
    · rw [if_pos c] at e
      exact ⟨ms.length, m, by rw [List.getElem?_append_right (Nat.le_refl _), Nat.sub_self]; rfl, c, (Option.some.inj e).symm⟩
    · rw [if_neg c] at e
      obtain ⟨i, m', h1, h2, h3⟩ := d.get e
      exact ⟨i, m', by rw [List.getElem?_append_left (List.getElem?_eq_some_iff.mp h1).1]; exact h1, h2, h3⟩
  all := fun {m'} hm => by
    rw [valV_put]
    by_cases c : keyL h m' = keyL h m
    · rw [if_pos c]; rfl
    · rw [if_neg c]
      rcases List.mem_append.mp hm with z | z
      · exact d.all z
      · rw [List.mem_singleton.mp z] at c
        exact absurd rfl c
/-- a way -/
def spWayN (K : PySem.W.Frag) : Sp := fun vs H Q _ => ∃ (t : Bool) (h : Hill) (v : V) (a : Nat) (x : Int), vs = [v, .int a, .int x] ∧ Dp K H v (h.dat t) ∧ HillOk h ∧ a < h.needs.length ∧
  ∀ ms ag wv H', h.Way a x ms ag → (∀ j, ag = some j → ((ms.take (ms.length - 1)).map h.key).Nodup) → ms.length ≤ 1000 → Dp K H' wv (wayD ms ag) → Ex [] H H' → Q wv H'
theorem ok_way_ofN (T : Txt K mg) : FnOk P w K mg base CX0 6 T.a_way_of T.d_way_of P_way_of (spWayN K) := by
  have nd := sc_way_of.nd
  have G_year_drops := ok_year_drops (P := P) (w := w) (base := base) T
  have G_stretches := ok_stretches (P := P) (w := w) (base := base) T
  have G_mark_behind := ok_mark_behind (P := P) (w := w) (base := base) T
  refine T.F_way_of.ok sc_way_of (fun vs H Q E h => ?_) (fun cdv A outer s H vs Q E hr h => ?_)
  · obtain ⟨t, h, v, a, x, rfl, _⟩ := h
    rfl
  · obtain ⟨t, h, v, a, x, rfl, hD, hk, ha, q⟩ := h
    have hr_year_drops := hr.mono (show 1 ≤ 5 by decide)
    have hr_stretches := hr.mono (show 4 ≤ 5 by decide)
    have hr_mark_behind := hr
    have n1 := hk.n1
    have n2 := hk.n2
    have dr := hk.dr
    have hL20 : h.L ≤ 20 := hk.y2
    refine ⟨_, (pss_cons (ps_par (i := 3) (j := 4) (by rfl) nd rfl rfl (by decide) rfl rfl (pa_cons (pe_call G_year_drops hr_year_drops (by rfl) T.m_year_drops T.k_year_drops T.b_year_drops .nil pass0 (pa_cons (pv 0) pa_nil)) (pa_cons (pe_call G_stretches hr_stretches (by rfl) T.m_stretches T.k_stretches T.b_stretches .nil pass0 (pa_cons (pv 0) pa_nil)) pa_nil)) (by rfl))
      (pss_cons (ps_set (i := 5) nd rfl (Or.inl rfl) (pe_lst pa_nil))
      (pss_cons (ps_set (i := 6) nd rfl (Or.inl rfl) pe_dnewT)
      (pss_cons (ps_set (i := 7) nd rfl (Or.inl rfl) (pe_tup (pa_cons pe_int (pa_cons (pv 1) (pa_cons (pv 2) pa_nil)))))
      (pss_cons (ps_while PassesOwn.never (pt_cmpR op_notN (pv 7) pe_non (nomark _)) (pss_cons (ps_expr (pe_bm PySem.F.plainAttrs_list PySem.F.slot_list_append PySem.F.type_list_append mt_append (pv 5) (pa_cons (pv 7) pa_nil)))
      (pss_cons (ps_set (i := 8) nd rfl (Or.inl rfl) (pe_tup (pa_cons (pe_ix (ixK K) (pv 7) pe_int (fun _ _ => rfl)) (pa_cons (pe_op op_mod (pe_ix (ixK K) (pv 7) pe_int (fun _ _ => rfl)) (pv 3)) pa_nil))))
      (pss_cons (ps_if (pt_cmp (pc_din (Nat.lt_of_le_of_lt (Nat.add_le_add_left (by decide) _) hr.units) (pv 8) (pv 6))) (pss_one (ps_ret (pe_tup (pa_cons (pv 5) (pa_cons (pe_dget (Nat.lt_of_le_of_lt (Nat.add_le_add_left (by decide) _) hr.units) (pv 6) (pv 8) (fun _ _ => rfl)) pa_nil))))) pss_nil)
      (pss_cons (ps_asg (pe_op op_sub (pe_callB (lenK K) (by rfl) T.z_len (by decide +kernel) (pa_cons (pv 5) pa_nil)) pe_int) (pg_sub (pv 6) (pv 8) (set_dict (Nat.lt_of_le_of_lt (Nat.add_le_add_left (by decide) _) hr.units))))
      (pss_one (ps_set (i := 7) nd rfl (Or.inl rfl) (pe_call G_mark_behind hr_mark_behind (by rfl) T.m_mark_behind T.k_mark_behind T.b_mark_behind .nil pass0 (pa_cons (pv 0) (pa_cons (pv 4) (pa_cons (pv 7) pa_nil)))))))))))
      (pss_one (ps_ret (pe_tup (pa_cons (pv 5) (pa_cons pe_non pa_nil)))))))))), ?_⟩
    walk_at "un"
    refine ⟨_, rfl, t, h, v, rfl, hD, hk, fun H1 x1 => ⟨_, rfl, t, h, v, rfl, dp_le x1.le0 _ _ hD, hk, fun l us p H2 hl hp hpl hA x2 => ⟨_, _, rfl, ?_⟩⟩⟩
    have hA2 : DpAll K H2 us (l.map (stD h)) := dpa_le (wo_le _ _) _ _ (hA [] (by simp))
    have len := Hill.lows_len hk.L0 hk.nn hk.op hk.dr hk.m0 hl
    have hmul : h.needs.length * l.length ≤ 20 * 20 := Nat.mul_le_mul (by omega) (by omega)
    have x12 := x1.trans x2
    refine ⟨Nat.zero_le _, fun M hM => ?_⟩
    have y1 := Ex.new (B := []) (o := .lst []) hM
    refine fun D hDD => ?_
    have y2 := y1.trans (Ex.new (B := []) (o := .dT []) hDD)
    have nMD : M ≠ D := fun z => by rw [← z, upd_same] at hDD; cases hDD
    refine ⟨_, rfl, _, rfl, show 3 ≤ sizeLine by decide, fun q0 hq0 => ?_⟩
    have y3 := y2.trans (Ex.new (B := []) (o := .tup [.int 0, .int a, .int x]) hq0)
    have D2 : H2 D = none := y1.free hDD
    have nM0 : M ≠ q0 := fun z => by rw [← z, upd_ne nMD, upd_same] at hq0; cases hq0
    have nD0 : D ≠ q0 := fun z => by rw [← z, upd_same] at hq0; cases hq0
    -- what holds ahead of each turn
    refine ⟨fun c σ H' => ∃ (ks : List (Addr × Hill.Mk)) (kvs : List (List Key × V)) (mk : V) (u8 : Option V), c = 2000 - ks.length ∧ σ = [some v, some (.int a), some (.int x), some (.int h.drops), some (.ref p), some (.ref M), some (.ref D), some mk, u8] ∧
        H' M = some (.lst (ks.map fun k => V.ref k.1)) ∧ H' D = some (.dT kvs) ∧ (∀ k ∈ ks, H' k.1 = some (.tup [.int k.2.t, .int k.2.a, .int k.2.y])) ∧ Dic h (ks.map (·.2)) kvs ∧ ((ks.map (·.2)).map h.key).Nodup ∧
        (∀ {i m m'}, (ks.map (·.2))[i]? = some m → (ks.map (·.2))[i + 1]? = some m' → h.Nx m m') ∧ (∀ m, (ks.map (·.2))[0]? = some m → m = ⟨0, a, x⟩) ∧ Ex [] H2 H' ∧
        ((mk = .non ∧ ks ≠ [] ∧ ∀ m, (ks.map (·.2))[ks.length - 1]? = some m → ∀ n, h.Quiet m.a m.y n) ∨
          ∃ q1 m, mk = .ref q1 ∧ H' q1 = some (.tup [.int m.t, .int m.a, .int m.y]) ∧ m.a < h.needs.length ∧ (ks = [] → m = ⟨0, a, x⟩) ∧ ∀ m', ks ≠ [] → (ks.map (·.2))[ks.length - 1]? = some m' → h.Nx m' m),
      ⟨_, [], [], _, _, rfl, rfl, by rw [upd_ne nM0, upd_ne nMD, upd_same]; rfl, by rw [upd_ne nD0, upd_same], by simp, ⟨Nat.le_refl _, fun e => (by cases e), fun e => (by cases e)⟩, by simp, by simp, by simp, y3, .inr ⟨q0, ⟨0, a, x⟩, rfl, upd_same, ha, fun _ => rfl, fun m' z => absurd rfl z⟩⟩, fun c σ H' hP => ?_⟩
    obtain ⟨ks, kvs, mk, u8, rfl, rfl, hMl, hDl, hks, dic, nod, nx, fst, y4, mkr⟩ := hP
    have lks := Hill.marks_len hk.L0 hk.nn hk.op hk.dr hk.m0 n1 hl nx nod
    rw [List.length_map] at lks
    have ldic := dic.len
    rw [List.length_map] at ldic
    refine ⟨_, rfl, rfl, ?_⟩
    rcases mkr with ⟨rfl, ne, quiet⟩ | ⟨q1, m, rfl, hq1, hma, m0, mnx⟩
    · -- no more losses come
      refine ⟨_, rfl, ?_⟩
      refine iteF ?_
      refine ⟨_, rfl, show 2 ≤ sizeLine by decide, fun pz hpz => ?_⟩
      have y5 := Ex.new (B := []) (o := .tup [.ref M, .non]) hpz
      refine q (ks.map (·.2)) none _ _ ⟨?_, nx, fun _ {m} e => ?_, fun {j} e => by cases e⟩ (fun j e => by cases e) (by rw [List.length_map]; omega) (.tup (SqT.of upd_same) (.cons (.lst (SqL.of (y5.get (by simp) hMl)) ?_) (.cons .non .nil))) (x12.trans (y4.trans y5))
      · cases ks with
        | nil => exact absurd rfl ne
        | cons k ks => exact congrArg some (fst _ rfl)
      · rw [List.length_map] at e
        exact quiet m e
      · refine dpa_of (by simp) fun i u hu => ?_
        rw [List.getElem?_map] at hu
        obtain ⟨k, hk', rfl⟩ := Option.map_eq_some_iff.mp hu
        refine ⟨markD k.2, by rw [List.getElem?_map, List.getElem?_map, hk']; rfl, .tup (SqT.of (y5.get (by simp) (hks k (List.mem_of_getElem? hk')))) (dpa_of_ints [(k.2.t : Int), (k.2.a : Int), k.2.y])⟩
    · refine ⟨_, rfl, ?_⟩
      refine iteT ⟨_, fun _ _ hh => hh, ?_⟩
      have nq1M : q1 ≠ M := fun z => by rw [z, hMl] at hq1; cases hq1
      have nq1D : q1 ≠ D := fun z => by rw [z, hDl] at hq1; cases hq1
      have nMD' : D ≠ M := fun z => nMD z.symm
      have nks : ∀ k ∈ ks, k.1 ≠ M ∧ k.1 ≠ D := fun k hk' => ⟨fun z => (by have := hks k hk'; rw [z, hMl] at this; cases this), fun z => (by have := hks k hk'; rw [z, hDl] at this; cases this)⟩
      walk_at "un"
      refine ⟨_, rfl, .inl ⟨rfl, _, SqL.of hMl⟩, _, rfl, M, _, _, rfl, rfl, hMl, by rw [List.length_map]; exact sz_lt (by omega), ?_⟩
      have emk : (ks.map fun k => V.ref k.1) ++ [V.ref q1] = (ks ++ [(q1, m)]).map fun k => V.ref k.1 := by rw [List.map_append]; rfl
      rw [emk]
      have hM5 : upd H' M (.lst ((ks ++ [(q1, m)]).map fun k => V.ref k.1)) M = some (.lst ((ks ++ [(q1, m)]).map fun k => V.ref k.1)) := upd_same
      have hD5 : upd H' M (.lst ((ks ++ [(q1, m)]).map fun k => V.ref k.1)) D = some (.dT kvs) := by rw [upd_ne nMD']; exact hDl
      have hks5 : ∀ k ∈ ks ++ [(q1, m)], upd H' M (.lst ((ks ++ [(q1, m)]).map fun k => V.ref k.1)) k.1 = some (.tup [.int k.2.t, .int k.2.a, .int k.2.y]) := fun k hk' => by
        rcases List.mem_append.mp hk' with z | z
        · rw [upd_ne (nks k z).1]; exact hks k z
        · rw [List.mem_singleton.mp z, upd_ne nq1M]; exact hq1
      have y5 : Ex [] H2 (upd H' M (.lst ((ks ++ [(q1, m)]).map fun k => V.ref k.1))) := y4.mutNew' hM
      revert hM5 hD5 hks5 y5
      generalize upd H' M (.lst ((ks ++ [(q1, m)]).map fun k => V.ref k.1)) = G
      intro hM5 hD5 hks5 y5
      have hq5 : G q1 = some (.tup [.int m.t, .int m.a, .int m.y]) := hks5 (q1, m) (by simp)
      have eks : (ks ++ [(q1, m)]).map (·.2) = ks.map (·.2) ++ [m] := by rw [List.map_append]; rfl
      have lks1 : (ks.map (·.2)).length = ks.length := List.length_map ..
      have nx5 : ∀ {i m1 m'}, ((ks ++ [(q1, m)]).map (·.2))[i]? = some m1 → ((ks ++ [(q1, m)]).map (·.2))[i + 1]? = some m' → h.Nx m1 m' := fun {i m1 m'} e1 e2 => by
        rw [eks] at e1 e2
        by_cases c : i + 1 < ks.length
        · rw [List.getElem?_append_left (by omega)] at e1 e2
          exact nx e1 e2
        · have c2 : i + 1 = ks.length := by
            have := (List.getElem?_eq_some_iff.mp e2).1
            rw [List.length_append, lks1, List.length_singleton] at this
            omega
          rw [List.getElem?_append_left (by omega)] at e1
          rw [List.getElem?_append_right (by omega), lks1, c2, Nat.sub_self] at e2
          obtain rfl : m = m' := Option.some.inj e2
          exact mnx m1 (fun z => by rw [z] at c2; cases c2) (by rw [← c2, Nat.add_sub_cancel]; exact e1)
      have fst5 : ((ks ++ [(q1, m)]).map (·.2))[0]? = some ⟨0, a, x⟩ := by
        cases ks with
        | nil => rw [m0 rfl]; rfl
        | cons k ks => exact congrArg some (fst _ rfl)
      have dpm : ∀ {G' : Hp}, (∀ k ∈ ks ++ [(q1, m)], G' k.1 = some (.tup [.int k.2.t, .int k.2.a, .int k.2.y])) → DpAll K G' ((ks ++ [(q1, m)]).map fun k => V.ref k.1) (((ks ++ [(q1, m)]).map (·.2)).map markD) := fun hG => by
        refine dpa_of (by simp) fun i u hu => ?_
        rw [List.getElem?_map] at hu
        obtain ⟨k, hk', rfl⟩ := Option.map_eq_some_iff.mp hu
        refine ⟨markD k.2, by rw [List.getElem?_map, List.getElem?_map, hk']; rfl, .tup (SqT.of (hG k (List.mem_of_getElem? hk'))) (dpa_of_ints [(k.2.t : Int), (k.2.a : Int), k.2.y])⟩
      -- like
      refine ⟨_, rfl, z_ix (.inr (SqT.of hq5)) (i := 1) (v := .int m.a) rfl ?_⟩
      refine ⟨_, rfl, z_ix (.inr (SqT.of hq5)) (i := 2) (v := .int m.y) rfl ?_⟩
      refine ⟨_, rfl, _, _, rfl, rfl, dr, show 2 ≤ sizeLine by decide, fun lk hlk => ?_⟩
      have z1 := Ex.new (B := []) (o := .tup [.int m.a, .int (m.y % h.drops)]) hlk
      have hlk6 : upd G lk (.tup [.int m.a, .int (m.y % h.drops)]) lk = some (.tup ((keyL h m).map kV)) := upd_same
      revert z1 hlk6
      generalize upd G lk (.tup [.int m.a, .int (m.y % h.drops)]) = G2
      intro z1 hlk6
      have hM6 := z1.get (by simp) hM5
      have hD6 := z1.get (by simp) hD5
      have hks6 : ∀ k ∈ ks ++ [(q1, m)], G2 k.1 = some (.tup [.int k.2.t, .int k.2.a, .int k.2.y]) := fun k hk' => z1.get (by simp) (hks5 k hk')
      refine ⟨_, rfl, _, rfl, D, _, rfl, DGet.t hD6 hlk6, ?_⟩
      cases ev : valV kvs (keyL h m) with
      | some u =>
        obtain ⟨i, mi, hi, ek, rfl⟩ := dic.get ev
        refine ⟨_, rfl, iteT ⟨_, rfl, _, rfl, _, rfl, D, .int (i : Nat), rfl, ?_, show 2 ≤ sizeLine by decide, fun pz hpz => ?_⟩⟩
        · rw [← ev]
          exact DGet.t hD6 hlk6
        · have z2 := Ex.new (B := []) (o := .tup [.ref M, .int (i : Nat)]) hpz
          have hi5 : ((ks ++ [(q1, m)]).map (·.2))[i]? = some mi := by rw [eks, List.getElem?_append_left (List.getElem?_eq_some_iff.mp hi).1]; exact hi
          have il := (List.getElem?_eq_some_iff.mp hi).1
          rw [lks1] at il
          have ke := Hill.key_eq (keyL_inj ek)
          refine q ((ks ++ [(q1, m)]).map (·.2)) (some i) _ _ ⟨fst5, nx5, fun e => (by cases e), fun {j} e => ?_⟩ (fun j _ => by rw [eks, List.length_append, List.length_singleton, Nat.add_sub_cancel, List.take_left]; exact nod) (by rw [List.length_map, List.length_append, List.length_singleton]; omega) (.tup (SqT.of upd_same) (.cons (.lst (SqL.of (z2.get (by simp) hM6)) (dpm fun k hk' => z2.get (by simp) (hks6 k hk'))) (.cons (.int _) .nil))) (x12.trans (y5.trans (z1.trans z2)))
          cases e
          refine ⟨by rw [List.length_map, List.length_append, List.length_singleton]; omega, mi, m, hi5, ?_, ke.1, ke.2⟩
          rw [List.length_map, List.length_append, List.length_singleton, Nat.add_sub_cancel, eks, List.getElem?_append_right (by omega), lks1, Nat.sub_self]
          rfl
      | none =>
        refine ⟨_, rfl, iteF ?_⟩
        have nkey : h.key m ∉ (ks.map (·.2)).map h.key := fun hm => by
          obtain ⟨m', hm', e⟩ := List.mem_map.mp hm
          have := dic.all hm'
          rw [show keyL h m' = keyL h m by unfold keyL; unfold Hill.key at e; injection e with e1 e2; rw [e1, e2], ev] at this
          cases this
        refine ⟨_, rfl, M, _, rfl, .inl (SqL.of hM6), _, _, rfl, rfl, ?_⟩
        have lenE : ((((ks ++ [(q1, m)]).map fun k => V.ref k.1).length : Nat) : Int) - 1 = ((ks.map (·.2)).length : Nat) := by
          rw [List.length_map, List.length_append, List.length_singleton, lks1]; omega
        dsimp only
        rw [lenE]
        refine ⟨_, rfl, _, rfl, D, _, rfl, DPut.t hD6 hlk6 (sz_lt (by omega)), ?_⟩
        have dic7 := dic.snoc m
        have nlD : lk ≠ D := fun z => by rw [z, hD6] at hlk6; cases hlk6
        have y7 : Ex [] H2 (upd G2 D (.dT (putK kvs (keyL h m) (.int ((ks.map (·.2)).length : Nat))))) := (y5.trans z1).mutNew' D2
        have hM7 : upd G2 D (.dT (putK kvs (keyL h m) (.int ((ks.map (·.2)).length : Nat)))) M = some (.lst ((ks ++ [(q1, m)]).map fun k => V.ref k.1)) := by rw [upd_ne nMD]; exact hM6
        have hD7 : upd G2 D (.dT (putK kvs (keyL h m) (.int ((ks.map (·.2)).length : Nat)))) D = some (.dT (putK kvs (keyL h m) (.int ((ks.map (·.2)).length : Nat)))) := upd_same
        have hks7 : ∀ k ∈ ks ++ [(q1, m)], upd G2 D (.dT (putK kvs (keyL h m) (.int ((ks.map (·.2)).length : Nat)))) k.1 = some (.tup [.int k.2.t, .int k.2.a, .int k.2.y]) := fun k hk' => by
          rw [upd_ne ?_]
          · exact hks6 k hk'
          · rcases List.mem_append.mp hk' with z | z
            · exact (nks k z).2
            · rw [List.mem_singleton.mp z]; exact nq1D
        revert y7 hM7 hD7 hks7
        generalize upd G2 D (.dT (putK kvs (keyL h m) (.int ((ks.map (·.2)).length : Nat)))) = G3
        intro y7 hM7 hD7 hks7
        have nod7 : (((ks ++ [(q1, m)]).map (·.2)).map h.key).Nodup := by
          rw [eks, List.map_append]
          exact Hill.nodup_snoc nod nkey
        have len7 : (ks ++ [(q1, m)]).length = ks.length + 1 := by rw [List.length_append, List.length_singleton]
        have ne7 : ks ++ [(q1, m)] ≠ [] := by simp
        have last7 : ∀ m', ((ks ++ [(q1, m)]).map (·.2))[(ks ++ [(q1, m)]).length - 1]? = some m' → m' = m := fun m' e => by
          rw [len7, Nat.add_sub_cancel, eks, List.getElem?_append_right (by omega), lks1, Nat.sub_self] at e
          exact (Option.some.inj e).symm
        have fst7 : ∀ m', ((ks ++ [(q1, m)]).map (·.2))[0]? = some m' → m' = ⟨0, a, x⟩ := fun m' e => by
          rw [fst5] at e
          exact (Option.some.inj e).symm
        rw [← eks] at dic7
        refine ⟨_, rfl, _, rfl, _, rfl, t, h, v, l, us, p, m, .ref q1, rfl, dp_le (x12.trans y7).le0 _ _ hD, hk, hl, le_l y7.le0 (SqL.of hpl), dpa_le y7.le0 _ _ hA2, .tup (SqT.of (hks7 (q1, m) (by simp))) (dpa_of_ints [(m.t : Int), (m.a : Int), m.y]), hma, fun H8 qu x8 => ?_, fun m' q2 H8 hnx hf2 hq2 x8 => ?_⟩
        · refine ⟨2000 - (ks ++ [(q1, m)]).length, by rw [len7]; omega, ks ++ [(q1, m)], _, _, _, rfl, rfl, x8.get (by simp) hM7, x8.get (by simp) hD7, fun k hk' => x8.get (by simp) (hks7 k hk'), dic7, nod7, nx5, fst7, y7.trans x8, .inl ⟨rfl, ne7, fun m' e => ?_⟩⟩
          rw [last7 m' e]
          exact qu
        · refine ⟨2000 - (ks ++ [(q1, m)]).length, by rw [len7]; omega, ks ++ [(q1, m)], _, _, _, rfl, rfl, x8.get (by simp) hM7, x8.get (by simp) hD7, fun k hk' => x8.get (by simp) (hks7 k hk'), dic7, nod7, nx5, fst7, y7.trans x8, .inr ⟨q2, m', rfl, hq2, ?_, fun z => absurd z ne7, fun m1 _ e => ?_⟩⟩
          · obtain ⟨n, _, rfl⟩ := hnx
            exact Nat.mod_lt _ n1
          · rw [last7 m1 e]
            exact hnx
def spWayOf (K : PySem.W.Frag) : Sp := fun vs H Q _ => ∃ (t : Bool) (h : Hill) (v : V) (a : Nat) (x : Int), vs = [v, .int a, .int x] ∧ Dp K H v (h.dat t) ∧ HillOk h ∧ a < h.needs.length ∧
  ∀ ms ag wv H', h.Way a x ms ag → ms.length ≤ 1000 → Dp K H' wv (wayD ms ag) → Ex [] H H' → Q wv H'
theorem ok_way_of (T : Txt K mg) : FnOk P w K mg base CX0 6 T.a_way_of T.d_way_of P_way_of (spWayOf K) := by
  refine fnOk_weak (ok_way_ofN T) fun vs H Q E h => ?_
  obtain ⟨t, h, v, a, x, rfl, hD, hk, ha, q⟩ := h
  exact ⟨t, h, v, a, x, rfl, hD, hk, ha, fun ms ag wv H' hW _ ln hd x => q ms ag wv H' hW ln hd x⟩
end
end Z64
set_option Elab.async false
set_option linter.all false
namespace Hz
namespace Hill
/-- the evening of a line, begun on that day -/
def EvOf (h : Hill) (day : Nat) (line : Int) (ev : Nat) : Prop := (line ≤ 0 ∧ ev = day) ∨ (0 < line ∧ ∃ m, h.DayOf line m ∧ ev = max day m)
theorem ev_uniq {h : Hill} {d : Nat} {y : Int} {a b : Nat} (x : h.EvOf d y a) (z : h.EvOf d y b) : a = b := by
  rcases x with ⟨x1, x2⟩ | ⟨x1, m, x2, x3⟩ <;> rcases z with ⟨z1, z2⟩ | ⟨z1, n, z2, z3⟩
  · omega
  · omega
  · omega
  · rw [x3, z3, dayOf_uniq x2 z2]
theorem ev_trans {h : Hill} {d0 d1 d2 : Nat} {y1 y2 : Int} (a : h.EvOf d0 y1 d1) (b : h.EvOf d1 y2 d2) (l : y1 ≤ y2) : h.EvOf d0 y2 d2 := by
  rcases a with ⟨x1, x2⟩ | ⟨x1, m, x2, x3⟩
  · rw [x2] at b; exact b
  · rcases b with ⟨z1, z2⟩ | ⟨z1, n, z2, z3⟩
    · omega
    · have := dayOf_mono x2 z2 l
      exact .inr ⟨z1, n, z2, by omega⟩
theorem ev_later {h : Hill} {d0 d1 : Nat} {y : Int} (a : h.EvOf d0 y d1) : d0 ≤ d1 := by
  rcases a with ⟨_, x2⟩ | ⟨_, m, _, x3⟩ <;> omega
section
variable {h : Hill} (hL : 0 < h.L) (hN : h.Nn)
include hL hN
theorem ev_zero {s : Now} (a : h.At s) : h.EvOf s.day (h.lineZ s) s.day := by
  by_cases c : h.lineZ s ≤ 0
  · exact .inl ⟨c, rfl⟩
  · refine .inr ⟨by omega, ?_⟩
    have hd : 0 < h.drops := by
      refine Classical.byContradiction fun z => ?_
      have g0 : h.given s.day ≤ 0 := by
        have e := given_year (h := h) (n := s.day % h.L) hL (s.day / h.L)
        have k := given_mono hN hL (show s.day % h.L ≤ h.L - 1 by have := Nat.mod_lt s.day hL; omega) (h := h)
        have t := ge_at hL 1 0 hL (h := h)
        rw [Nat.add_zero, List.take_zero, List.map_nil, List.sum_nil, Nat.one_mul] at t
        have t2 : h.given (h.L - 1) = h.ge h.L := by unfold given; rw [show h.L - 1 + 1 = h.L by omega]
        have m := Nat.mod_add_div s.day h.L
        rw [Nat.mul_comm] at m
        rw [m] at e
        have : ((s.day / h.L : Nat) : Int) * h.drops ≤ 0 := Int.mul_nonpos_of_nonneg_of_nonpos (Int.natCast_nonneg _) (by omega)
        rw [t2, t] at k
        omega
      have := a.p0
      unfold lineZ at c
      omega
    obtain ⟨m, hm⟩ := dayOf_ex hN hL ⟨_, List.mem_of_getElem? (at_day hL s.day).choose_spec.1, by rw [← (at_day hL s.day).choose_spec.2.2]; exact a.op⟩ hd (h.lineZ s)
    refine ⟨m, hm, ?_⟩
    have : m ≤ s.day := Nat.not_lt.mp fun z => by
      have := hm.2.2 s.day z a.op
      have := a.p0
      have e : h.lineZ s = h.given s.day - s.pot := rfl
      omega
    omega
theorem ev_turn (hd : 0 < h.drops) (hm0 : 0 ≤ h.most) (hn : ∀ m ∈ h.needs, 0 ≤ m) {s : Now} {r : Now × Int} (a : h.At s) (t : h.Turn s r) : h.EvOf s.day (h.lineZ r.1) r.1.day := by
  have ra := turn_at hm0 a t
  obtain ⟨m, e, rfl⟩ := t
  have e0 := e
  obtain ⟨e1, e2, e3, e4⟩ := e
  have g0 : 0 ≤ h.given s.day := by
    have := ge_mono hN hL (Nat.zero_le (s.day + 1))
    rw [ge_zero] at this
    exact this
  have low : h.given s.day + h.need s.ant - s.pot ≤ h.lineZ (h.goes s m).1 := by
    show _ ≤ h.given m - min (h.over s m) h.most
    have : min (h.over s m) h.most ≤ h.over s m := Int.min_le_left _ _
    unfold over at *
    omega
  have now : h.need s.ant ≤ s.pot → m = s.day := fun c => eve_uniq e0 (eve_now a.op c)
  show h.EvOf s.day (h.lineZ (h.goes s m).1) m
  by_cases c : h.lineZ (h.goes s m).1 ≤ 0
  · exact .inl ⟨c, now (by omega)⟩
  · obtain ⟨k, hk⟩ := dayOf_ex hN hL ⟨_, List.mem_of_getElem? (at_day hL s.day).choose_spec.1, by rw [← (at_day hL s.day).choose_spec.2.2]; exact a.op⟩ hd (h.lineZ (h.goes s m).1)
    refine .inr ⟨by omega, k, hk, ?_⟩
    have km : k ≤ m := Nat.not_lt.mp fun z => by
      have := hk.2.2 m z e2
      have := ra.p0
      have e : h.lineZ (h.goes s m).1 = h.given m - (h.goes s m).1.pot := rfl
      omega
    by_cases c2 : s.pot < h.need s.ant
    · obtain ⟨k2, hk2⟩ := dayOf_ex hN hL ⟨_, List.mem_of_getElem? (at_day hL s.day).choose_spec.1, by rw [← (at_day hL s.day).choose_spec.2.2]; exact a.op⟩ hd (h.given s.day + h.need s.ant - s.pot)
      have := eve_uniq e0 (eve_dayOf hN hL c2 hk2)
      have := dayOf_mono hk2 hk low
      omega
    · have := now (by omega)
      omega
theorem rows_ev (ho : ∃ d, d ∈ h.year ∧ d.2 = true) (hd : 0 < h.drops) (hm0 : 0 ≤ h.most) (hn : ∀ m ∈ h.needs, 0 ≤ m) {A : Int} (hA : ∀ i, 0 ≤ h.need i ∧ h.need i ≤ A) : ∀ {l : List (Now × Int)} {s : Now} {k : Nat} {r : Now × Int}, h.At s → h.Rows s l → l[k]? = some r → h.EvOf s.day (h.lineZ r.1) r.1.day
  | [], _, _, _, _, _, e => by simp at e
  | r :: l, s, 0, r', a, x, e => by
    simp at e
    subst e
    exact ev_turn hL hN hd hm0 hn a x.1
  | r :: l, s, k + 1, r', a, x, e => by
    have e' : l[k]? = some r' := by simpa using e
    have a1 := turn_at hm0 a x.1
    have i := rows_ev ho hd hm0 hn hA a1 x.2 e'
    have b := (rows_led hL hN ho hd hm0 hn a1 x.2 e').1
    refine ev_trans (ev_turn hL hN hd hm0 hn a x.1) i ?_
    rw [b]
    exact (ledN_bd hL hN ho hd hm0 hA _ _ _).1
/-- how all stands behind so many turns, told by the line -/
theorem rows_now (ho : ∃ d, d ∈ h.year ∧ d.2 = true) (hd : 0 < h.drops) (hm0 : 0 ≤ h.most) (hn : ∀ m ∈ h.needs, 0 ≤ m) {A : Int} (hA : ∀ i, 0 ≤ h.need i ∧ h.need i ≤ A) {l : List (Now × Int)} {s : Now} {k : Nat} {r : Now × Int} (a : h.At s) (x : h.Rows s l) (e : l[k]? = some r) {ev : Nat} (v : h.EvOf s.day (h.ledN s.ant (h.lineZ s) (k + 1)) ev) :
    (⟨ev, (s.ant + (k + 1)) % h.needs.length, h.given ev - h.ledN s.ant (h.lineZ s) (k + 1)⟩ : Now) = r.1 := by
  obtain ⟨e1, _, e3⟩ := rows_led hL hN ho hd hm0 hn a x e
  have i := rows_ev hL hN ho hd hm0 hn hA a x e
  rw [e1] at i
  have := ev_uniq v i
  subst this
  rw [← e3, ← e1]
  show (⟨r.1.day, r.1.ant, h.given r.1.day - (h.given r.1.day - r.1.pot)⟩ : Now) = r.1
  rw [show h.given r.1.day - (h.given r.1.day - r.1.pot) = r.1.pot by omega]
theorem ev_year (ho : ∃ d, d ∈ h.year ∧ d.2 = true) (hd : 0 < h.drops) {d ev : Nat} {y : Int} (op : h.isOpen d = true) (v : h.EvOf d y ev) (k : Nat) : h.EvOf (d + k * h.L) (y + k * h.drops) (ev + k * h.L) := by
  rcases v with ⟨v1, v2⟩ | ⟨v1, m, v2, v3⟩
  · subst v2
    by_cases c : y + k * h.drops ≤ 0
    · exact .inl ⟨c, rfl⟩
    · obtain ⟨m, hm⟩ := dayOf_ex hN hL ho hd (y + k * h.drops)
      refine .inr ⟨by omega, m, hm, ?_⟩
      have g0 : 0 ≤ h.given ev := by
        have := ge_mono hN hL (Nat.zero_le (ev + 1))
        rw [ge_zero] at this
        exact this
      have : m ≤ ev + k * h.L := Nat.not_lt.mp fun z => by
        have := hm.2.2 (ev + k * h.L) z (by rw [isOpen_year]; exact op)
        rw [given_year hL] at this
        omega
      omega
  · have dk : 0 ≤ (k : Int) * h.drops := Int.mul_nonneg (by omega) (by omega)
    exact .inr ⟨by omega, m + k * h.L, dayOf_year hL hN v2 (by omega) k, by omega⟩
end
section
variable {h : Hill} (hL : 0 < h.L) (hN : h.Nn) (ho : ∃ d, d ∈ h.year ∧ d.2 = true) (hd : 0 < h.drops)
include hL hN ho hd
theorem ledN_need (a : Nat) (x : Int) : ∀ n, x + h.needN a n ≤ h.ledN a x n
  | 0 => by show x + 0 ≤ x; omega
  | n + 1 => by
    have i := ledN_need a x n
    have z := lostZ_nn hL hN ho hd (h.ledN a x n + h.need ((a + n) % h.needs.length))
    show x + (h.needN a n + h.need ((a + n) % _)) ≤ h.ledN a x n + h.need ((a + n) % _) + h.lostZ (h.ledN a x n + h.need ((a + n) % _))
    omega
end
end Hill
end Hz
set_option Elab.async false
set_option linter.all false
set_option maxRecDepth 100000
set_option maxHeartbeats 4000000
namespace Z64
open PySem PySem.Spec PyProof.Rows L2 Hz Hz.Win
section
variable {P : Program} {w : World} {K : PySem.W.Frag} {mg : Str → Option Value} {base : Heap}
local macro_rules | `(tactic| walk_at "un") => `(tactic| try dsimp only [tSeq, tIfS, tRet, tAsg, tDrop, tOr, tAnd, tNot, tAndV, tOrV, tNotV, tTest, tB, tOp, tUn, tCB, tCons, tNil, tC, tNext, tIf, tChain, gName, tPar, tPar3, tTup, tLst])
theorem way_parts {G : Hp} {wv : V} {ms : List Hill.Mk} {ag : Option Nat} (h : Dp K G wv (wayD ms ag)) : ∃ q mv av, wv = .ref q ∧ SqT K G q [mv, av] ∧ Dp K G mv (.list (ms.map markD)) ∧ Dp K G av (agD ag) := by
  obtain ⟨q, ys, rfl, hS, hA⟩ := dp_tup (show Dp K G wv (.tuple [.list (ms.map markD), agD ag]) from h)
  cases hA with | cons h1 hA => cases hA with | cons h2 hA =>
  cases hA
  exact ⟨q, _, _, rfl, hS, h1, h2⟩
/-- a list of marks -/
theorem marks_at {G : Hp} {mv : V} {ms : List Hill.Mk} (h : Dp K G mv (.list (ms.map markD))) : ∃ M us, mv = .ref M ∧ SqL K G M us ∧ us.length = ms.length ∧ DpAll K G us (ms.map markD) ∧ ∀ {i : Nat} {m : Hill.Mk}, ms[i]? = some m → ∃ u, us[i]? = some u ∧ Dp K G u (sq true [.int m.t, .int m.a, .int m.y]) := by
  obtain ⟨M, us, rfl, hS, hA⟩ := dp_sq (t := false) h
  have lu := dpa_len hA
  rw [List.length_map] at lu
  refine ⟨M, us, rfl, hS, lu, hA, fun {i m} e => ?_⟩
  obtain ⟨u, hu, hD⟩ := dpa_get hA (i := i) (d := markD m) (by rw [List.getElem?_map, e]; rfl)
  exact ⟨u, hu, hD⟩
theorem atI_m1 {us : List V} {u : V} (e : us[us.length - 1]? = some u) : atI us (-1) = some u := by
  have l := (List.getElem?_eq_some_iff.mp e).1
  have h : us = us.dropLast ++ [u] := by
    have n : us ≠ [] := fun z => by rw [z] at l; simp at l
    rw [List.getElem?_eq_getElem l] at e
    have := List.dropLast_concat_getLast n
    rw [List.getLast_eq_getElem] at this
    rw [← this]
    simp at e
    rw [e]
    simp
  rw [h]
  exact atI_last _ _
/-- once around -/
def spRound (K : PySem.W.Frag) : Sp := fun vs H Q _ => ∃ (ms : List Hill.Mk) (j : Nat) (wv : V) (mj ml : Hill.Mk), vs = [wv] ∧ Dp K H wv (wayD ms (some j)) ∧ ms[j]? = some mj ∧ ms[ms.length - 1]? = some ml ∧
  ∀ p H', H' p = some (.tup [.int ((ml.t : Int) - mj.t), .int (ml.y - mj.y)]) → H p = none → Ex [] H H' → Q (.ref p) H'
theorem ok_round_of (T : Txt K mg) : FnOk P w K mg base CX0 1 T.a_round_of T.d_round_of P_round_of (spRound K) := by
  have nd := sc_round_of.nd
  refine T.F_round_of.ok sc_round_of (fun vs H Q E h => ?_) (fun cdv A outer s H vs Q E hr h => ?_)
  · obtain ⟨ms, j, wv, mj, ml, rfl, _⟩ := h
    rfl
  · obtain ⟨ms, j, wv, mj, ml, rfl, hW, ej, el, q⟩ := h
    refine ⟨_, (pss_cons (ps_asg (pv 0) (pg_seqK K 2 (by rfl) (pgs_cons (pg_name (i := 1) nd rfl (Or.inl rfl)) (pgs_cons (pg_name (i := 2) nd rfl (Or.inl rfl)) pgs_nil))))
      (pss_one (ps_ret (pe_tup (pa_cons (pe_op op_sub (pe_ix (ixK K) (pe_ix (ixK K) (pv 1) (pe_un un_neg pe_int) (fun _ _ => rfl)) pe_int (fun _ _ => rfl)) (pe_ix (ixK K) (pe_ix (ixK K) (pv 1) (pv 2) (fun _ _ => rfl)) pe_int (fun _ _ => rfl))) (pa_cons (pe_op op_sub (pe_ix (ixK K) (pe_ix (ixK K) (pv 1) (pe_un un_neg pe_int) (fun _ _ => rfl)) pe_int (fun _ _ => rfl)) (pe_ix (ixK K) (pe_ix (ixK K) (pv 1) (pv 2) (fun _ _ => rfl)) pe_int (fun _ _ => rfl))) pa_nil)))))), ?_⟩
    walk_at "un"
    obtain ⟨q0, mv, av, rfl, hS, hM, hAg⟩ := way_parts hW
    obtain ⟨M, us, rfl, hMS, lu, hMA, hat⟩ := marks_at hM
    cases hAg
    obtain ⟨uj, huj, hjD⟩ := hat ej
    obtain ⟨ul, hul, hlD⟩ := hat el
    rw [← lu] at hul
    refine ⟨_, rfl, z_gSq (t := true) hS rfl ⟨_, _, rfl, _, _, rfl, rfl, ?_⟩⟩
    walk_at "un"
    refine ⟨_, rfl, _, rfl, z_ix (.inl hMS) (atI_m1 hul) (z_ixD hlD (Le.refl _) (j := 0) rfl rfl fun u hu => ?_)⟩
    obtain rfl := dp_int hu
    refine ⟨_, rfl, _, rfl, z_ix (.inl hMS) (atI_nat huj) (z_ixD hjD (Le.refl _) (j := 0) rfl rfl fun u hu => ?_)⟩
    obtain rfl := dp_int hu
    refine ⟨_, _, rfl, rfl, ?_⟩
    refine ⟨_, rfl, _, rfl, z_ix (.inl hMS) (atI_m1 hul) (z_ixD hlD (Le.refl _) (j := 2) rfl rfl fun u hu => ?_)⟩
    obtain rfl := dp_int hu
    refine ⟨_, rfl, _, rfl, z_ix (.inl hMS) (atI_nat huj) (z_ixD hjD (Le.refl _) (j := 2) rfl rfl fun u hu => ?_)⟩
    obtain rfl := dp_int hu
    refine ⟨_, _, rfl, rfl, show 2 ≤ sizeLine by decide, fun p hp => ?_⟩
    exact q p _ upd_same hp (Ex.new hp)
theorem HillOk.nd {h : Hill} (hk : HillOk h) (i : Nat) : 0 ≤ h.need i ∧ h.need i ≤ 10 ^ 14 := by
  by_cases c : i < h.needs.length
  · have := need_bd hk c
    omega
  · unfold Hill.need
    rw [List.getElem?_eq_none (by omega)]
    exact ⟨Int.le_refl _, by decide⟩
/-- the line behind so many turns -/
def spLineB (K : PySem.W.Frag) : Sp := fun vs H Q _ => ∃ (t : Bool) (h : Hill) (v wv : V) (ms : List Hill.Mk) (ag : Option Nat) (a : Nat) (x : Int) (n : Nat), vs = [v, wv, .int n] ∧ Dp K H v (h.dat t) ∧ HillOk h ∧ a < h.needs.length ∧ h.Way a x ms ag ∧ ms.length ≤ 1000 ∧ Dp K H wv (wayD ms ag) ∧ n ≤ 10 ^ 60 ∧
  ∀ H', Ex [] H H' → Q (.int (h.ledN a x n)) H'
def spStateB (K : PySem.W.Frag) : Sp := fun vs H Q _ => ∃ (t : Bool) (h : Hill) (v : V) (day a : Nat) (y : Int), vs = [v, .int day, .int a, .int y] ∧ Dp K H v (h.dat t) ∧ HillOk h ∧
  ∀ (ev : Nat) p H', h.EvOf day y ev → H p = none → H' p = some (.tup [.int ev, .int a, .int (h.given ev - y)]) → Ex [] H H' → Q (.ref p) H'
theorem ok_state_behind (T : Txt K mg) : FnOk P w K mg base CX0 3 T.a_state_behind T.d_state_behind P_state_behind (spStateB K) := by
  have nd := sc_state_behind.nd
  have G_given_by := ok_given_by (P := P) (w := w) (base := base) T
  have G_day_of := ok_day_of (P := P) (w := w) (base := base) T
  refine T.F_state_behind.ok sc_state_behind (fun vs H Q E h => ?_) (fun cdv A outer s H vs Q E hr h => ?_)
  · obtain ⟨t, h, v, day, a, y, rfl, _⟩ := h
    rfl
  · obtain ⟨t, h, v, day, a, y, rfl, hD, hk, q⟩ := h
    have hr_given_by := hr
    have hr_day_of := hr
    refine ⟨_, (pss_cons (ps_set (i := 4) nd rfl (Or.inl rfl) (pv 1))
      (pss_cons (ps_if (pt_cmpR op_gt (pv 3) pe_int (nomark _)) (pss_one (ps_set (i := 4) nd rfl (Or.inl rfl) (pe_callB (call_max2 rfl) (by rfl) T.z_max (by decide +kernel) (pa_cons (pv 1) (pa_cons (pe_call G_day_of hr_day_of (by rfl) T.m_day_of T.k_day_of T.b_day_of .nil pass0 (pa_cons (pv 0) (pa_cons (pv 3) pa_nil))) pa_nil))))) pss_nil)
      (pss_one (ps_ret (pe_tup (pa_cons (pv 4) (pa_cons (pv 2) (pa_cons (pe_op op_sub (pe_call G_given_by hr_given_by (by rfl) T.m_given_by T.k_given_by T.b_given_by .nil pass0 (pa_cons (pv 0) (pa_cons (pv 4) pa_nil))) (pv 3)) pa_nil)))))))), ?_⟩
    refine seq_asg ⟨_, rfl, ?_⟩
    dsimp only [gName]
    refine seq_join (fun σ H' => ∃ ev : Nat, σ = [some v, some (.int day), some (.int a), some (.int y), some (.int ev)] ∧ h.EvOf day y ev ∧ Ex [] H H') (fun N hN => ?_) (fun σ H' hP => ?_)
    · walk_at "un"
      refine ⟨_, rfl, _, _, rfl, rfl, _, rfl, ite2 (fun c => ?_) (fun c => ?_)⟩
      · have c' : y > 0 := of_decide_eq_true c
        refine ⟨_, rfl, _, rfl, _, rfl, t, h, v, y.toNat, by rw [Int.toNat_of_nonneg (by omega)]; rfl, hD, hk, by omega, fun m H1 hm x1 => ?_⟩
        refine ⟨_, _, rfl, ?_⟩
        rw [Int.toNat_of_nonneg (by omega)] at hm
        rw [show (if (m : Int) > day then (m : Int) else day) = ((max day m : Nat) : Int) by split <;> omega]
        exact hN _ _ ⟨_, rfl, .inr ⟨c', m, hm, rfl⟩, x1⟩
      · have c' : ¬ y > 0 := of_decide_eq_false (Bool.eq_false_iff.mpr c)
        exact hN _ _ ⟨day, rfl, .inl ⟨by omega, rfl⟩, Ex.refl _ _⟩
    · obtain ⟨ev, rfl, he, x1⟩ := hP
      walk_at "un"
      refine ⟨_, rfl, _, rfl, _, rfl, _, rfl, t, h, v, ev, rfl, dp_le x1.le0 _ _ hD, hk, fun r H2 er x2 => ?_⟩
      subst er
      refine ⟨_, rfl, _, _, rfl, rfl, show 3 ≤ sizeLine by decide, fun p hp => ?_⟩
      have x3 := x1.trans x2
      exact q ev p _ he (x3.free hp) upd_same (x3.trans (Ex.new hp))
def spWayFrom (K : PySem.W.Frag) : Sp := fun vs H Q _ => ∃ (t t2 : Bool) (h : Hill) (s : Now) (v u : V), vs = [v, u] ∧ Dp K H v (h.dat t) ∧ HillOk h ∧ Dp K H u (s.dat t2) ∧ s.ant < h.needs.length ∧
  ∀ ms ag wv H', h.Way s.ant (lineAt h s) ms ag → ms.length ≤ 1000 → Dp K H' wv (wayD ms ag) → Ex [] H H' → Q wv H'
/-- how all stands behind so many turns -/
noncomputable def farN (h : Hill) (s : Now) (n ev : Nat) : Now := ⟨ev, (s.ant + n) % h.needs.length, h.given ev - h.ledN s.ant (lineAt h s) n⟩
noncomputable def farL (h : Hill) (s : Now) (n : Nat) : Int := h.ledN s.ant (lineAt h s) n - lineAt h s - h.needN s.ant n
def spGone (K : PySem.W.Frag) : Sp := fun vs H Q _ => ∃ (t t2 : Bool) (h : Hill) (s : Now) (n : Nat) (v u : V), vs = [v, u, .int n] ∧ Dp K H v (h.dat t) ∧ HillOk h ∧ Dp K H u (s.dat t2) ∧ s.ant < h.needs.length ∧ n ≤ 10 ^ 60 ∧
  ∀ ev p r H', h.EvOf s.day (h.ledN s.ant (lineAt h s) n) ev → Fr K H H' (.ref p) ((farN h s n ev).dat true) → H' r = some (.tup [.ref p, .int (farL h s n)]) → Ex [] H H' → Q (.ref r) H'
def spLostBy (K : PySem.W.Frag) : Sp := fun vs H Q _ => ∃ (t t2 : Bool) (h : Hill) (s : Now) (n : Nat) (v u : V), vs = [v, u, .int n] ∧ Dp K H v (h.dat t) ∧ HillOk h ∧ Dp K H u (s.dat t2) ∧ s.ant < h.needs.length ∧ n ≤ 10 ^ 60 ∧
  ∀ H', Ex [] H H' → Q (.int (farL h s n)) H'
end
end Z64
set_option Elab.async false
set_option linter.all false
set_option maxRecDepth 100000
set_option maxHeartbeats 3200000
namespace Hz
open PySem PySem.Spec PyProof.Rows L2
section
variable {P : Program} {w : World} {A : Around} {E : Value → Shared → Prop} {s : Shared}
/-- a set as it is made -/
abbrev bareSet (w : World) : Obj := { cls := .type "set", dict := none, data := .set #[] 0 (.fresh 0 0 (!w.params.followText "set-order")) }
/-- a set that is filled from a list of ints -/
theorem fill_set {S l : Addr} {items : Array Value} {ns : List Int} {R : PySem.Fin → Shared → Prop} (hh : A.handled = none) (hS : s.heap.get? S = some (bareSet w)) (hl : s.heap.IsList l items) (hi : IntsAre items.toList ns) (hb : ns.length + 1 < scanBound)
    (q : ∀ h' tk c, SetR w h' S (fun j => decide (j ∈ ns)) c → c ≤ ns.length → (∀ b o, b ≠ S → s.heap.get? b = some o → h'.get? b = some o) → R (.done (.ret .none)) { s with heap := h', toks := tk }) :
    wpAny (model P w) A (Builtin.«set.__init__» ⟨[.ref S, .ref l], []⟩) R E s := by
  obtain ⟨⟨c, d, t, sl⟩, hol, hcl, nl, hdl⟩ := id hl
  obtain rfl : c = Value.type "list" := hcl
  obtain rfl : t = Data.seq items nl := hdl
  have n1 := F.sub_list_set
  have n2 := F.sub_list_frozenset
  have n3 : (Value.type "list" == Value.type "dict") = false := by decide
  unfold Builtin.«set.__init__» noKeywords Builtin.Frozenset.updateFrom
  generalize hPI : pyIter = PI
  wp_walk
  subst hPI
  have hlt := Heap.lt_size hol
  have hST := Heap.lt_size hS
  have hne : l ≠ S := fun z => by rw [z, hS] at hol; exact absurd (congrArg Obj.cls (Option.some.inj hol)) (fun e => by injection e with e; revert e; decide)
  have old : ∀ {b o}, s.heap.get? b = some o → (s.heap.push { cls := .type "list_iterator", data := .fields #[.ref l, .int 0 0] }).get? b = some o := fun e => Heap.get?_push_of_some _ e
  refine wpAny_pyIter_list hl (wpAny_bind (wpAny_runValue ?_))
  have hsz : items.size = ns.length := by rw [← Array.length_toList]; exact IntsAre.length hi
  have val : ∀ (i : Nat) (v : Value), items[i]? = some v → ∃ k t, ns[i]? = some k ∧ v = .int k t := fun i v hv => by
    have li : i < ns.length := by rw [← hsz]; exact (Array.getElem?_eq_some_iff.mp hv).1
    obtain ⟨t, e⟩ := IntsAre.int_at hi i v (by rw [Array.getElem?_toList]; exact hv)
    exact ⟨_, t, List.getElem?_eq_getElem li, by rw [e, List.getD_eq_getElem?_getD, List.getElem?_eq_getElem li]; rfl⟩
  have W : WalksS P w A.in1 s.heap.objs.size _ _ _ _ _ _ := (Walks.list (prog := P) (w := w) (A := A.in1) (by simp [hh]) s.heap.objs.size l (Nat.ne_of_lt hlt) items).toS
  refine set_update_ints W S (fun z => by simp only [List.mem_cons, List.not_mem_nil, or_false] at z; rcases z with z | z; exact Nat.ne_of_lt hST z; exact hne z.symm) ns hsz hb val items.size 0 _ rfl (Nat.zero_le _) ⟨⟨_, Heap.get?_push_size _ rfl, rfl, rfl⟩, hl.push _⟩ ⟨0, Nat.le_refl _, setR_new_at (old hS)⟩ fun s' c mv hc hR => ?_
  obtain ⟨h', g, d', tk, os⟩ := s'
  obtain rfl : g = s.gens := mv.gens
  obtain rfl : d' = s.drawn := mv.drawn
  obtain rfl : os = s.os := mv.os
  refine wpAny_pure (wpAny_pure (q h' tk c hR (by omega) fun b o nb e => mv.heap b o ?_ (old e)))
  have lt := Heap.lt_size e
  intro z
  simp only [List.mem_cons, List.not_mem_nil, or_false] at z
  exact z.elim nb (Nat.ne_of_lt lt)
/-- set(xs), xs a list of ints -/
theorem call_setI {l : Addr} {items : Array Value} {ns : List Int} {Q : Value → Shared → Prop} (hh : A.handled = none) (hl : s.heap.IsList l items) (hi : IntsAre items.toList ns) (hb : ns.length + 1 < scanBound)
    (q : ∀ h' tk c, SetR w h' s.heap.objs.size (fun j => decide (j ∈ ns)) c → c ≤ ns.length → (∀ b o, s.heap.get? b = some o → h'.get? b = some o) → Q (.ref s.heap.objs.size) { s with heap := h', toks := tk }) :
    wpAny (model P w) A (call (.type "set") [.ref l]) Q E s := by
  have ⟨_, _, _⟩ := F.called_set.mro
  have m1 := F.called_set.made
  have m2 := F.called_set.sub
  have m3 := F.called_set.notType
  have m4 := F.called_set.canCreate
  have m5 := F.typeCall_set_1 (.ref l)
  refine wpAny_call (codeAny_of_tree (wpAny_pure ⟨Code.quiet_builtin _ (by decide +kernel), codeAny_builtin F.entry_type_call ?_⟩))
  rw [Around.under_plain (weight_type_call_type "set" [.ref l] []) rfl]
  repeat (any_goals (first | assumption | wp_step))
  have at0 : (s.heap.push (bareSet w)).get? s.heap.objs.size = some (bareSet w) := Heap.get?_push_size _ rfl
  have ty : Shared.TypeIs { s with heap := s.heap.push (bareSet w) } (.ref s.heap.objs.size) "set" := ⟨_, at0, rfl⟩
  have m6 := F.called_set.init.lookup
  have m7 := F.called_set.init.bind (.ref s.heap.objs.size)
  refine codeAny_mono (code_set_led1 (.ref l) (E := E) (Q₁ := fun v s1 => v = .ref s.heap.objs.size ∧ s1 = { s with heap := s.heap.push (bareSet w) }) ⟨rfl, rfl⟩) fun r s1 hr => ?_
  rcases r with e | (_ | _ | _ | v) <;> try exact hr
  obtain ⟨rfl, rfl⟩ := hr
  repeat (any_goals (first | assumption | wp_step))
  refine codeAny_mono (codeAny_call_builtin (R := wants (fun v s2 => v = .none ∧ ∃ h' tk c, s2 = { s with heap := h', toks := tk } ∧ SetR w h' s.heap.objs.size (fun j => decide (j ∈ ns)) c ∧ c ≤ ns.length ∧ ∀ b o, s.heap.get? b = some o → h'.get? b = some o) E)
    F.called_set.init.plain F.entry_set_init (check_set_init_1 ty (fill_set (by simp [hh]) at0 (hl.push _) hi hb fun h' tk c hR hc k => ⟨rfl, h', tk, c, rfl, hR, hc, fun b o e => k b o (Nat.ne_of_lt (Heap.lt_size e)) (Heap.get?_push_of_some _ e)⟩))) fun r s2 hr => ?_
  rcases r with e | (_ | _ | _ | v) <;> try exact hr
  obtain ⟨rfl, h', tk, c, rfl, hR, hc, k⟩ := hr
  repeat (any_goals (first | assumption | wp_step))
  exact q _ _ _ hR hc k
end
section
variable {X : Cx}
/-- set(xs) of a list of ints, as the set of what is in it -/
def rSetI (K : PySem.W.Frag) (w : World) : List V → Hp → VK → Prop := fun xs H Q => ∃ (l : Addr) (ns : List Int), xs = [V.ref l] ∧ SqL K H l (ns.map V.int) ∧ ns.length < 63 ∧
  ∀ a c, H a = none → c ≤ ns.length → Q (.ref a) (upd H a (SetO w a (fun j => decide (j ∈ ns)) c))
theorem cr_setI (hc : X.calm = true) : CallR X (.type "set") (rSetI X.K X.w) := by
  intro pins s σ H xs us Q I r h
  obtain ⟨l, ns, rfl, hl, hf, q⟩ := h
  rw [Vals.ref1 r]
  obtain ⟨its, rv, pl, hz⟩ := I.list hl
  have hn : H s.heap.objs.size = none := I.hok.fresh (Nat.le_refl _)
  refine call_setI (I.ok.hd hc) pl.isList (ns := ns) (by simpa using ints_of_vals rv) (by unfold scanBound; omega) fun h' tk c R lc k => ?_
  exact ⟨.ref s.heap.objs.size, upd H s.heap.objs.size (SetO X.w s.heap.objs.size (fun j => decide (j ∈ ns)) c), I.laid (t' := tk) k (Nat.le_refl _) (setO_new R), rfl, q _ c hn lc⟩
end
end Hz
set_option Elab.async false
set_option linter.all false
namespace Hz
open PySem PyProof.Rows L2
section
/-- sorted(set(xs)) of ints -/
theorem z_sset {K : PySem.W.Frag} {w : World} {l : Addr} {H : Hp} {js : List Int} {Q : VK} (hl : SqL K H l (js.map V.int)) (hn : js.length < 63)
    (q : ∀ (ns : List Int) (p : Addr) (H' : Hp), ns.Pairwise (· < ·) → (∀ k : Int, k ∈ ns ↔ k ∈ js) → ns.length ≤ js.length → H p = none → H' p = some (.lst (ns.map V.int)) → Ex [] H H' → Q (.ref p) H') : rSetI K w [.ref l] H fun x H1 => rSortedSet w [x] H1 Q := by
  refine ⟨l, js, rfl, hl, hn, fun a c ha hc => ⟨a, _, c, rfl, upd_same, by omega, fun ns p pw hm hlen hp => ?_⟩⟩
  have x1 := Ex.new (B := []) (o := SetO w a (fun j => decide (j ∈ js)) c) ha
  exact q ns p _ pw (fun k => by rw [hm k, decide_eq_true_iff]) (by omega) (x1.free hp) upd_same (x1.trans (Ex.new hp))
end
section
variable {K : PySem.W.Frag} {g : TG} {tb : TS} {D : Ends} {σ : L2.St} {H : Hp} {tl : TE}
/-- a loop over a list that is told -/
def ForC (K : PySem.W.Frag) (g : TG) (tb : TS) (D : Ends) (σ : L2.St) (x : V) (H1 : Hp) : Prop := ∃ (a : Addr) (xs : List V) (Pv : Nat → L2.St → Hp → Prop), x = .ref a ∧ Pv 0 σ H1 ∧ (∀ i σ' H', i ≤ xs.length → Pv i σ' H' → SqL K H' a xs) ∧
  (∀ i x σ' H', xs[i]? = some x → Pv i σ' H' → g x σ' H' fun σ2 H2 => tb { D with nx := Pv (i + 1), ct := Pv (i + 1), bk := D.nx } σ2 H2) ∧ ∀ σ' H', Pv xs.length σ' H' → D.nx σ' H'
theorem z_forL (h : ∀ R : VK, (∀ x H1, ForC K g tb D σ x H1 → R x H1) → tl σ H R) : tFor (iList K tl) g tb D σ H :=
  h _ fun x H1 ⟨a, xs, Pv, e, h0, hl, hs, hd⟩ => ⟨a, e, ⟨xs, hl 0 σ H1 (Nat.zero_le _) h0⟩, for_list Pv h0 hl hs hd⟩
end
end Hz
namespace Hz
open PySem PyProof.Rows L2
/-- a tuple is no list -/
theorem sqt_wo {K : PySem.W.Frag} {G : Hp} {p q : Addr} {xs ys : List V} (hp : G p = some (.lst ys)) (h : SqT K G q xs) : SqT K (wo [p] G) q xs := by
  have ne : ∀ {o : HO}, G q = some o → (∀ zs, o ≠ .lst zs) → q ∉ [p] := fun {o} e n z => by
    rw [List.mem_singleton.mp z, hp] at e
    exact n ys (Option.some.inj e).symm
  rcases h with h | h
  · rcases h with h | ⟨o, h⟩
    · exact .inl (.inl (wo_of (ne h (fun zs z => by cases z)) h))
    · exact .inl (.inr ⟨o, wo_of (ne h (fun zs z => by cases z)) h⟩)
  · exact .inr h
end Hz
set_option Elab.async false
set_option linter.all false
set_option maxRecDepth 100000
set_option maxHeartbeats 8000000
namespace Z64
open PySem PySem.Spec PyProof.Rows L2 Hz
section
variable {P : Program} {w : World} {K : PySem.W.Frag} {mg : Str → Option Value} {base : Heap}
local macro_rules | `(tactic| walk_at "un") => `(tactic| try dsimp only [tSeq, tIfS, tRet, tAsg, tDrop, tOr, tAnd, tNot, tAndV, tOrV, tNotV, tTest, tB, tOp, tUn, tCB, tCons, tNil, tC, tNext, tIf, tChain, gName, tPar, tPar3, tTup, tLst])
theorem dpt_dat {h : Hill} (hk : HillOk h) (t : Bool) : dpt 3 (h.dat t) := by
  have h1 := hk.y2
  have h2 := hk.n2
  have day : ∀ d : Int × Bool, dpt 1 (sq t [.int d.1, .bool d.2]) := fun d => by
    cases t <;> refine ⟨by show 2 ≤ 1000; decide, fun e he => ?_⟩ <;> simp only [List.mem_cons, List.not_mem_nil, or_false] at he <;> rcases he with rfl | rfl <;> trivial
  have y : dpt 2 (sq t (h.year.map fun d => sq t [.int d.1, .bool d.2])) := by
    cases t <;> refine ⟨by rw [List.length_map]; omega, fun e he => ?_⟩ <;> obtain ⟨d, _, rfl⟩ := List.mem_map.mp he <;> exact day d
  have n : dpt 2 (sq t (h.needs.map PyData.int)) := by
    cases t <;> refine ⟨by rw [List.length_map]; omega, fun e he => ?_⟩ <;> obtain ⟨d, _, rfl⟩ := List.mem_map.mp he <;> trivial
  cases t <;> refine ⟨by show 3 ≤ 1000; decide, fun e he => ?_⟩ <;> simp only [List.mem_cons, List.not_mem_nil, or_false] at he <;> rcases he with rfl | rfl | rfl
  · exact y
  · exact n
  · trivial
  · exact y
  · exact n
  · trivial
theorem listed_dat (h : Hill) : listed (h.dat true) = h.dat false := by
  have e1 : ∀ ds, listed (.tuple ds) = .list (ds.map listed) := fun ds => by rw [← listedAll_map]; rfl
  show listed (.tuple _) = .list _
  rw [e1]
  congr 1
  show [listed (.tuple _), listed (.tuple _), listed (.int _)] = [PyData.list _, PyData.list _, PyData.int _]
  rw [e1, e1, List.map_map, List.map_map]
  congr 2
theorem dpt_now (s : Now) (t : Bool) (N : Nat) : dpt (N + 1) (s.dat t) := by
  cases t <;> refine ⟨by show 3 ≤ 1000; decide, fun e he => ?_⟩ <;> simp only [List.mem_cons, List.not_mem_nil, or_false] at he <;> rcases he with rfl | rfl | rfl <;> cases N <;> trivial
/-- what is lost in a turn of a row -/
noncomputable def lossN (h : Hill) (a : Nat) (x : Int) (i : Nat) : Int := h.lostZ (h.ledN a x i + h.need ((a + i) % h.needs.length))
theorem loss_sum (h : Hill) (a : Nat) (x : Int) : ∀ k, ((List.range k).map (lossN h a x)).sum = h.ledN a x k - x - h.needN a k
  | 0 => by show (0 : Int) = x - x - 0; omega
  | k + 1 => by
    rw [List.range_succ, List.map_append, List.sum_append, loss_sum h a x k]
    show _ + (lossN h a x k + 0) = h.ledN a x k + h.need ((a + k) % h.needs.length) + lossN h a x k - x - (h.needN a k + h.need ((a + k) % h.needs.length))
    omega
/-- the sum of what rows lose -/
theorem z_losses {h : Hill} {s : Now} {l : List (Now × Int)} {us : List V} {G : Hp} {m : Nat} (hk : HillOk h) (hA : h.At s) (hR : h.Rows s l) (dU : DpAll K G us (l.map rowD)) : ∀ {i : Nat} {u : V} {G' : Hp}, Ex [] G G' → (us.take m)[i]? = some u → ∃ pa z, u = .ref pa ∧ SqT K G' pa [z, .int (lossN h s.ant (h.lineZ s) i)] := fun {i u G'} e hu => by
  have hu' : us[i]? = some u := by
    rw [List.getElem?_take] at hu
    split at hu
    · exact hu
    · cases hu
  obtain ⟨d, hd, hD'⟩ := dpa_get' dU hu'
  rw [List.getElem?_map] at hd
  obtain ⟨r, hr, rfl⟩ := Option.map_eq_some_iff.mp hd
  obtain ⟨pa, qs, rfl, hSp, hqA⟩ := dp_sq (t := true) (ds := [r.1.dat true, .int r.2]) (dp_le e.le0 _ _ hD')
  cases hqA with
  | @cons z _ _ _ g1 g2 =>
  cases g2 with
  | cons g3 g4 =>
  cases g4
  obtain rfl := dp_int g3
  have ee := (Hill.rows_led hk.L0 hk.nn hk.op hk.dr hk.m0 hk.nn0 hA hR hr).2.1
  refine ⟨pa, z, rfl, ?_⟩
  unfold lossN
  rw [← ee]
  exact hSp
end
end Z64
set_option Elab.async false
set_option linter.all false
set_option maxRecDepth 100000
set_option maxHeartbeats 4000000
namespace Z64
open PySem PySem.Spec PyProof.Rows L2 Hz
section
variable {P : Program} {w : World} {K : PySem.W.Frag} {mg : Str → Option Value} {base : Heap}
local macro_rules | `(tactic| walk_at "un") => `(tactic| try dsimp only [tSeq, tIfS, tRet, tAsg, tDrop, tOr, tAnd, tNot, tAndV, tOrV, tNotV, tTest, tB, tOp, tUn, tCB, tCons, tNil, tC, tNext, tIf, tChain, gName, tPar, tPar3, tTup, tLst])
def spBehind (K : PySem.W.Frag) : Sp := fun vs H Q _ => ∃ (t t2 : Bool) (h : Hill) (s : Now) (n : Nat) (v u : V), vs = [v, u, .int n] ∧ Dp K H v (h.dat t) ∧ HillOk h ∧ Dp K H u (s.dat t2) ∧ s.ant < h.needs.length ∧ n ≤ 10 ^ 60 ∧
  ∀ ev p H', h.EvOf s.day (h.ledN s.ant (lineAt h s) n) ev → Fr K H H' (.ref p) ((farN h s n ev).dat true) → Ex [] H H' → Q (.ref p) H'
end
end Z64
set_option Elab.async false
set_option linter.all false
namespace Hz
/-- in one of the pairs -/
def Cov (ps : List (Int × Int)) (x : Int) : Prop := ∃ p, p ∈ ps ∧ p.1 ≤ x ∧ x ≤ p.2
/-- what is free of a circle, in its longest runs -/
structure Gaps (g : Int) (C : Int → Prop) (l : List (Int × Int)) : Prop where
  up : l.Pairwise (fun p q => p.2 + 1 < q.1)
  in_ : ∀ p, p ∈ l → 0 ≤ p.1 ∧ p.1 ≤ p.2 ∧ p.2 < g
  eq : ∀ x, 0 ≤ x → x < g → (Cov l x ↔ ¬ C x)
structure Swept (g : Int) (ps : List (Int × Int)) (f : Int) (l : List (Int × Int)) : Prop where
  nn : 0 ≤ f
  up : l.Pairwise (fun p q => p.2 + 1 < q.1)
  in_ : ∀ p, p ∈ l → 0 ≤ p.1 ∧ p.1 ≤ p.2 ∧ p.2 + 1 < f ∧ p.2 < g
  eq : ∀ x, 0 ≤ x → x < f → (Cov l x ↔ ¬ Cov ps x)
theorem Swept.zero (g : Int) (ps : List (Int × Int)) : Swept g ps 0 [] := ⟨Int.le_refl _, .nil, fun p hp => by simp at hp, fun x a b => by omega⟩
theorem cov_snoc {l : List (Int × Int)} {q : Int × Int} {x : Int} : Cov (l ++ [q]) x ↔ Cov l x ∨ (q.1 ≤ x ∧ x ≤ q.2) := by
  unfold Cov
  constructor
  · rintro ⟨p, hp, h⟩
    rcases List.mem_append.mp hp with z | z
    · exact .inl ⟨p, z, h⟩
    · rw [List.mem_singleton.mp z] at h
      exact .inr h
  · rintro (⟨p, hp, h⟩ | h)
    · exact ⟨p, List.mem_append_left _ hp, h⟩
    · exact ⟨q, List.mem_append_right _ (by simp), h⟩
theorem pw_snoc {l : List (Int × Int)} {q : Int × Int} (p : l.Pairwise (fun p q => p.2 + 1 < q.1)) (h : ∀ p, p ∈ l → p.2 + 1 < q.1) : (l ++ [q]).Pairwise (fun p q => p.2 + 1 < q.1) := by
  rw [List.pairwise_append]
  refine ⟨p, by simp, fun a ha b hb => ?_⟩
  rw [List.mem_singleton.mp hb]
  exact h a ha
theorem Swept.gap {g : Int} {ps l : List (Int × Int)} {f b e : Int} (s : Swept g ps f l) (m : (b, e) ∈ ps) (be : b ≤ e) (bg : b < g) (done : ∀ p, p ∈ ps → p.2 < f ∨ b ≤ p.1) (c : f < b) : Swept g ps (e + 1) (l ++ [(f, b - 1)]) where
  nn := by have := s.nn; omega
  up := pw_snoc s.up fun p hp => (s.in_ p hp).2.2.1
  in_ := fun p hp => by
    have := s.nn
    rcases List.mem_append.mp hp with z | z
    · have := s.in_ p z
      omega
    · rw [List.mem_singleton.mp z]
      dsimp only
      omega
  eq := fun x x0 xf => by
    rw [cov_snoc]
    dsimp only
    rcases Int.lt_or_le x f with h | h
    · rw [← s.eq x x0 h]
      constructor
      · rintro (z | z)
        · exact z
        · omega
      · exact .inl
    · have nl : ¬ Cov l x := fun ⟨p, hp, h1, h2⟩ => by have := s.in_ p hp; omega
      rcases Int.lt_or_le x b with h2 | h2
      · have : ¬ Cov ps x := fun ⟨p, hp, h1, h3⟩ => by
          rcases done p hp with z | z <;> omega
        exact ⟨fun _ => this, fun _ => .inr ⟨h, by omega⟩⟩
      · have : Cov ps x := ⟨(b, e), m, h2, by show x ≤ e; omega⟩
        exact ⟨fun z => (z.elim (fun z => absurd z nl) fun z => by omega), fun z => absurd this z⟩
theorem Swept.on {g : Int} {ps l : List (Int × Int)} {f b e : Int} (s : Swept g ps f l) (m : (b, e) ∈ ps) (c : b ≤ f) : Swept g ps (max f (e + 1)) l where
  nn := by have := s.nn; omega
  up := s.up
  in_ := fun p hp => by have := s.in_ p hp; omega
  eq := fun x x0 xf => by
    rcases Int.lt_or_le x f with h | h
    · exact s.eq x x0 h
    · have nl : ¬ Cov l x := fun ⟨p, hp, h1, h2⟩ => by have := s.in_ p hp; omega
      have : Cov ps x := ⟨(b, e), m, by show b ≤ x; omega, by show x ≤ e; omega⟩
      exact ⟨fun z => absurd z nl, fun z => absurd this z⟩
theorem Swept.last {g : Int} {ps l : List (Int × Int)} {f : Int} (s : Swept g ps f l) (done : ∀ p, p ∈ ps → p.2 < f) (c : f < g) : Gaps g (Cov ps) (l ++ [(f, g - 1)]) where
  up := pw_snoc s.up fun p hp => (s.in_ p hp).2.2.1
  in_ := fun p hp => by
    have := s.nn
    rcases List.mem_append.mp hp with z | z
    · have := s.in_ p z
      omega
    · rw [List.mem_singleton.mp z]
      dsimp only
      omega
  eq := fun x x0 xg => by
    rw [cov_snoc]
    dsimp only
    rcases Int.lt_or_le x f with h | h
    · rw [← s.eq x x0 h]
      constructor
      · rintro (z | z)
        · exact z
        · omega
      · exact .inl
    · have : ¬ Cov ps x := fun ⟨p, hp, h1, h2⟩ => by have := done p hp; omega
      exact ⟨fun _ => this, fun _ => .inr ⟨h, by omega⟩⟩
theorem Swept.all {g : Int} {ps l : List (Int × Int)} {f : Int} (s : Swept g ps f l) (c : ¬ f < g) : Gaps g (Cov ps) l where
  up := s.up
  in_ := fun p hp => by have := s.in_ p hp; omega
  eq := fun x x0 xg => s.eq x x0 (by omega)
/-- the arcs' parts -/
def parts (g : Int) (as : List (Int × Int)) : List (Int × Int) := as.flatMap fun a => [(a.1 % g, a.1 % g + a.2 - a.1), (a.1 % g - g, a.1 % g + a.2 - a.1 - g)]
/-- upon an arc, round and round -/
def OnArc (g : Int) (as : List (Int × Int)) (x : Int) : Prop := ∃ a, a ∈ as ∧ ∃ k : Int, a.1 ≤ x + k * g ∧ x + k * g ≤ a.2
theorem mem_parts {g : Int} {as : List (Int × Int)} {p : Int × Int} : p ∈ parts g as ↔ ∃ a, a ∈ as ∧ (p = (a.1 % g, a.1 % g + a.2 - a.1) ∨ p = (a.1 % g - g, a.1 % g + a.2 - a.1 - g)) := by
  unfold parts
  rw [List.mem_flatMap]
  constructor
  · rintro ⟨a, ha, h⟩
    refine ⟨a, ha, ?_⟩
    simpa using h
  · rintro ⟨a, ha, h⟩
    exact ⟨a, ha, by simpa using h⟩
theorem cov_parts {g : Int} (g0 : 0 < g) {as : List (Int × Int)} {x : Int} (x0 : 0 ≤ x) (xg : x < g) : Cov (parts g as) x ↔ OnArc g as x := by
  constructor
  · rintro ⟨p, hp, h1, h2⟩
    obtain ⟨a, ha, e⟩ := mem_parts.mp hp
    have em := Int.mul_ediv_add_emod a.1 g
    refine ⟨a, ha, ?_⟩
    rcases e with rfl | rfl
    · refine ⟨a.1 / g, ?_⟩
      rw [Int.mul_comm (a.1 / g)]
      dsimp only at h1 h2
      omega
    · refine ⟨a.1 / g + 1, ?_⟩
      rw [Int.add_mul, Int.one_mul, Int.mul_comm (a.1 / g)]
      dsimp only at h1 h2
      omega
  · rintro ⟨a, ha, k, h1, h2⟩
    have em := Int.mul_ediv_add_emod a.1 g
    have e0 := Int.emod_nonneg a.1 (show g ≠ 0 by omega)
    have e1 := Int.emod_lt_of_pos a.1 g0
    obtain ⟨j, ej⟩ : ∃ j, j = k - a.1 / g := ⟨_, rfl⟩
    have ek : k * g = j * g + g * (a.1 / g) := by rw [ej, Int.sub_mul, Int.mul_comm (a.1 / g)]; omega
    have h1' : a.1 % g ≤ x + j * g := by omega
    have h2' : x + j * g ≤ a.1 % g + a.2 - a.1 := by omega
    rcases Int.lt_trichotomy j 0 with c | c | c
    · have : j * g ≤ (-1) * g := Int.mul_le_mul_of_nonneg_right (by omega) (by omega)
      omega
    · subst c
      exact ⟨_, mem_parts.mpr ⟨a, ha, .inl rfl⟩, by show a.1 % g ≤ x; omega, by show x ≤ a.1 % g + a.2 - a.1; omega⟩
    · have : 1 * g ≤ j * g := Int.mul_le_mul_of_nonneg_right (by omega) (by omega)
      exact ⟨_, mem_parts.mpr ⟨a, ha, .inr rfl⟩, by show a.1 % g - g ≤ x; omega, by show x ≤ a.1 % g + a.2 - a.1 - g; omega⟩
theorem Gaps.congr {g : Int} {C D : Int → Prop} {l : List (Int × Int)} (h : Gaps g C l) (e : ∀ x, 0 ≤ x → x < g → (C x ↔ D x)) : Gaps g D l := ⟨h.up, h.in_, fun x a b => by rw [h.eq x a b, e x a b]⟩
end Hz
set_option Elab.async false
set_option linter.all false
namespace Hz
open PySem PyProof.Rows L2
theorem lay_ints : ∀ ns : List Int, PyData.canLayAll0 (ns.map PyData.int) = true ∧ PyData.depthAll (ns.map PyData.int) = 0
  | [] => ⟨by simp [PyData.canLayAll0], by simp [PyData.depthAll]⟩
  | n :: ns => by
    obtain ⟨a, b⟩ := lay_ints ns
    exact ⟨by simp [PyData.canLayAll0, PyData.canLay0, a], by simp [PyData.depthAll, PyData.depth, b]⟩
theorem shaped_ints (t : Bool) (ns : List Int) : SeqAt.shaped (sq t (ns.map PyData.int)) = true := by
  obtain ⟨a, b⟩ := lay_ints ns
  cases t
  · show SeqAt.shaped (.list _) = true
    unfold SeqAt.shaped
    simp [PyData.canLay0, PyData.depth, a, b]
  · show SeqAt.shaped (.tuple _) = true
    unfold SeqAt.shaped
    simp [PyData.canLay0, PyData.depth, a, b]
theorem shaped_nil (t : Bool) : SeqAt.shaped (sq t []) = true := shaped_ints t []
theorem eqv_nil (ds : List PyData) : PyData.eqv (.list ds) (.list []) = decide (ds.length = 0) := by
  cases ds <;> rfl
theorem eqv_ints (t : Bool) (ns : List Int) : PyData.eqv (sq t (ns.map PyData.int)) (sq t (ns.map PyData.int)) = true := by
  have key : ∀ ns : List Int, PyData.eqvAll (ns.map PyData.int) (ns.map PyData.int) = true := by
    intro ns
    induction ns with
    | nil => simp [PyData.eqvAll]
    | cons n ns ih => simp [PyData.eqvAll, PyData.eqv, ih]
  cases t
  · show PyData.eqv (.list _) (.list _) = true
    simp [PyData.eqv, key]
  · show PyData.eqv (.tuple _) (.tuple _) = true
    simp [PyData.eqv, key]
abbrev duoD (p : Int × Int) : PyData := sq true [.int p.1, .int p.2]
theorem shaped_pairs (ps : List (Int × Int)) : SeqAt.shaped (.list (ps.map duoD)) = true := by
  have key : ∀ ps : List (Int × Int), PyData.canLayAll0 (ps.map duoD) = true ∧ PyData.depthAll (ps.map duoD) ≤ 1 := by
    intro ps
    induction ps with
    | nil => exact ⟨by simp [PyData.canLayAll0], by simp [PyData.depthAll]⟩
    | cons p ps ih =>
      obtain ⟨a, b⟩ := ih
      refine ⟨?_, ?_⟩
      · show PyData.canLayAll0 (.tuple [.int p.1, .int p.2] :: ps.map duoD) = true
        simp [PyData.canLayAll0, PyData.canLay0, a]
      · show PyData.depthAll (.tuple [.int p.1, .int p.2] :: ps.map duoD) ≤ 1
        simp only [PyData.depthAll, PyData.depth]
        omega
  obtain ⟨a, b⟩ := key ps
  unfold SeqAt.shaped
  rw [show PyData.canLay0 (.list (ps.map duoD)) = true by simp only [PyData.canLay0]; exact a, decide_eq_true (show PyData.depth (.list (ps.map duoD)) ≤ 64 by simp only [PyData.depth]; omega)]
  rfl
theorem eqv_pairs (ps : List (Int × Int)) : PyData.eqv (.list (ps.map duoD)) (.list (ps.map duoD)) = true := by
  have key : ∀ ps : List (Int × Int), PyData.eqvAll (ps.map duoD) (ps.map duoD) = true := by
    intro ps
    induction ps with
    | nil => simp [PyData.eqvAll]
    | cons p ps ih =>
      show PyData.eqvAll (.tuple [.int p.1, .int p.2] :: ps.map duoD) (.tuple [.int p.1, .int p.2] :: ps.map duoD) = true
      simp [PyData.eqvAll, PyData.eqv, ih]
  show PyData.eqv (.list _) (.list _) = true
  simp [PyData.eqv, key]
end Hz
set_option Elab.async false
set_option linter.all false
set_option maxRecDepth 100000
set_option maxHeartbeats 2000000
namespace Hz
open PySem PySem.Spec PyProof.Rows L2
/-! ### the least, the greatest of some that may be None -/
def IsMin (ns : List Nat) : Option Nat → Prop
  | none => ns = []
  | some m => m ∈ ns ∧ ∀ j ∈ ns, m ≤ j
def IsMax (ns : List Nat) : Option Nat → Prop
  | none => ns = []
  | some m => m ∈ ns ∧ ∀ j ∈ ns, j ≤ m
def somes (os : List (Option Nat)) : List Nat := os.filterMap id
theorem mem_somes {os : List (Option Nat)} {n : Nat} : n ∈ somes os ↔ some n ∈ os := by
  unfold somes
  rw [List.mem_filterMap]
  constructor
  · rintro ⟨o, h, e⟩
    rw [show o = some n from e] at h
    exact h
  · exact fun h => ⟨_, h, rfl⟩
/-- what parts of a window tell of the whole -/
theorem fsb_parts {b st A l h : Int} {os : List (Option Nat)} {r : Option Nat} (p1 : ∀ n, some n ∈ os → Inb b st A l h n) (p2 : ∀ n, Inb b st A l h n → ∃ m, some m ∈ os ∧ m ≤ n) (i : IsMin (somes os) r) : Fsb b st A l h r := by
  cases r with
  | none =>
    intro n hn
    obtain ⟨m, hm, _⟩ := p2 n hn
    have := mem_somes.mpr hm
    rw [show somes os = [] from i] at this
    simp at this
  | some m =>
    refine ⟨p1 m (mem_somes.mp i.1), fun k hk hn => ?_⟩
    obtain ⟨m', hm', le⟩ := p2 k hn
    have := i.2 m' (mem_somes.mpr hm')
    omega
theorem lsb_parts {b st A l h N : Int} {os : List (Option Nat)} {r : Option Nat} (p1 : ∀ n, some n ∈ os → (n : Int) < N ∧ Inb b st A l h n) (p2 : ∀ n : Nat, (n : Int) < N → Inb b st A l h n → ∃ m, some m ∈ os ∧ n ≤ m) (i : IsMax (somes os) r) : Lsb b st A l h N r := by
  cases r with
  | none =>
    intro n hN hn
    obtain ⟨m, hm, _⟩ := p2 n hN hn
    have := mem_somes.mpr hm
    rw [show somes os = [] from i] at this
    simp at this
  | some m =>
    obtain ⟨a, b⟩ := p1 m (mem_somes.mp i.1)
    refine ⟨a, b, fun k hk hN hn => ?_⟩
    obtain ⟨m', hm', le⟩ := p2 k hN hn
    have := i.2 m' (mem_somes.mpr hm')
    omega
theorem isMin_somes {ns : List Nat} {m : Int} (h1 : m ∈ ns.map fun n : Nat => (n : Int)) (h2 : ∀ j ∈ ns.map fun n : Nat => (n : Int), m ≤ j) : ∃ k : Nat, m = k ∧ IsMin ns (some k) := by
  obtain ⟨k, hk, rfl⟩ := List.mem_map.mp h1
  refine ⟨k, rfl, hk, fun j hj => ?_⟩
  have := h2 (j : Int) (List.mem_map.mpr ⟨j, hj, rfl⟩)
  omega
theorem isMax_somes {ns : List Nat} {m : Int} (h1 : m ∈ ns.map fun n : Nat => (n : Int)) (h2 : ∀ j ∈ ns.map fun n : Nat => (n : Int), j ≤ m) : ∃ k : Nat, m = k ∧ IsMax ns (some k) := by
  obtain ⟨k, hk, rfl⟩ := List.mem_map.mp h1
  refine ⟨k, rfl, hk, fun j hj => ?_⟩
  have := h2 (j : Int) (List.mem_map.mpr ⟨j, hj, rfl⟩)
  omega
theorem somes_range (os : List (Option Nat)) : (List.range os.length).filterMap (fun k => (os[k]?).bind fun o => o.map fun n : Nat => PyData.int n) = ((somes os).map fun n : Nat => (n : Int)).map PyData.int := by
  have key : ∀ n, n ≤ os.length → (List.range n).filterMap (fun k => (os[k]?).bind fun o => o.map fun n : Nat => PyData.int n) = ((somes (os.take n)).map fun n : Nat => (n : Int)).map PyData.int := by
    intro n
    induction n with
    | zero => intro _; rfl
    | succ n ih =>
      intro hn
      unfold somes at ih ⊢
      rw [List.range_succ, List.filterMap_append, ih (by omega), List.take_add_one, List.filterMap_append, List.map_append, List.map_append]
      congr 1
      rw [List.getElem?_eq_getElem (by omega)]
      simp only [List.filterMap_cons, List.filterMap_nil]
      rw [List.getElem?_eq_getElem (by omega)]
      generalize os[n] = o
      cases o <;> rfl
  have := key os.length (Nat.le_refl _)
  rwa [List.take_length] at this
/-- what holds however two ways joined -/
theorem join4 {α β γ δ : Type} {R P : α → β → γ → δ → Prop} {G : Prop} (h : ∀ x y z w, P x y z w → R x y z w) (k : (∀ x y z w, P x y z w → R x y z w) → G) : G := k h
theorem join2 {α β : Type} {R P : α → β → Prop} {G : Prop} (h : ∀ x y, P x y → R x y) (k : (∀ x y, P x y → R x y) → G) : G := k h
end Hz
set_option Elab.async false
set_option linter.all false
set_option maxRecDepth 100000
set_option maxHeartbeats 2000000
namespace Hz
open PySem PySem.Spec PyProof.Rows L2
theorem fsb_iff {b st A l h b' st' A' l' h' : Int} (i : ∀ n, Inb b st A l h n ↔ Inb b' st' A' l' h' n) : ∀ {r : Option Nat}, Fsb b st A l h r → Fsb b' st' A' l' h' r
  | none, f => fun n hn => f n ((i n).mpr hn)
  | some m, f => ⟨(i m).mp f.1, fun k hk hn => f.2 k hk ((i k).mpr hn)⟩
theorem inb_mod {b st A l h : Int} (n : Nat) : Inb (b % A) st A l h n ↔ Inb b st A l h n := by
  unfold Inb
  rw [Int.emod_add_emod]
theorem inb_times {t b st A l h : Int} (t0 : 0 < t) (n : Nat) : Inb (t * b) (t * st) (t * A) (t * l) (t * h + t - 1) n ↔ Inb b st A l h n := by
  unfold Inb
  have e : t * b + n * (t * st) = t * (b + n * st) := by rw [Int.mul_add, Int.mul_left_comm]
  rw [e, Int.mul_emod_mul_of_pos _ _ t0]
  generalize (b + n * st) % A = x
  constructor
  · rintro ⟨p, q⟩
    refine ⟨Int.le_of_mul_le_mul_left p t0, ?_⟩
    have h1 : t * x < t * (h + 1) := by rw [Int.mul_add, Int.mul_one]; omega
    have := Int.lt_of_mul_lt_mul_left h1 (by omega)
    omega
  · rintro ⟨p, q⟩
    have p' := Int.mul_le_mul_of_nonneg_left p (Int.le_of_lt t0)
    have q' := Int.mul_le_mul_of_nonneg_left q (Int.le_of_lt t0)
    omega
theorem inb_on {b st A l h : Int} (f n : Nat) : Inb ((b + ((f : Int) + 1) * st) % A) st A l h n ↔ Inb b st A l h (f + 1 + n) := by
  rw [inb_mod]
  unfold Inb
  have : b + ((f : Int) + 1) * st + n * st = b + ((f + 1 + n : Nat) : Int) * st := by
    have e : ((f + 1 + n : Nat) : Int) = ((f : Int) + 1) + n := by omega
    rw [e, Int.add_mul ((f : Int) + 1) n st]
    omega
  rw [this]
theorem next_some {b st A l h : Int} (A0 : 0 < A) {f : Nat} (i : Inb b st A l h f) (g : Fsb ((b + ((f : Int) + 1) * st) % A) st A l h none) : False := by
  refine g (A.toNat - 1) ((inb_on f _).mpr ?_)
  have e : f + 1 + (A.toNat - 1) = f + A.toNat := by omega
  rw [e, inb_round A0, Nat.add_mod_right]
  exact (inb_round A0 f).mp i
/-- nothing below so many: so the first -/
theorem lsb_far {b st A l h N : Int} : ∀ {f L : Option Nat}, Fsb b st A l h f → Lsb b st A l h N L → decide (L = none) = (f.elim true fun m => decide (N ≤ m))
  | none, none, _, _ => rfl
  | none, some m, f, g => absurd g.2.1 (f m)
  | some n, none, f, g => by
    have : N ≤ n := Int.not_lt.mp fun c => g n c f.1
    simp [this]
  | some n, some m, f, g => by
    have h1 : n ≤ m := Nat.not_lt.mp fun c => f.2 m c g.2.1
    have h2 := g.1
    have : ¬ N ≤ n := by omega
    simp [this]
theorem two_one {b st A l h N : Int} {f m : Nat} (F : Fsb b st A l h (some f)) (M : Fsb ((b + ((f : Int) + 1) * st) % A) st A l h (some m)) (hf : (f : Int) < N) (hm : N ≤ f + 1 + m) {r : Option Nat} (g : Lsb b st A l h N r) : r = some f := by
  refine lsb_uniq g ⟨hf, F.1, fun k hk hN i => ?_⟩
  have e : f + 1 + (k - (f + 1)) = k := by omega
  exact M.2 (k - (f + 1)) (by omega) ((inb_on f _).mpr (by rw [e]; exact i))
theorem two_two {b st A l h N : Int} {f m : Nat} (M : Fsb ((b + ((f : Int) + 1) * st) % A) st A l h (some m)) (hm : (f : Int) + 1 + m < N) : ∀ {r : Option Nat}, Lsb b st A l h N r → ∃ k : Nat, r = some k ∧ f + 1 + m ≤ k
  | none, g => absurd ((inb_on f m).mp M.1) (g _ (by omega))
  | some k, g => ⟨k, rfl, Nat.not_lt.mp fun c => g.2.2 _ c (by omega) ((inb_on f m).mp M.1)⟩
/-- two parts of a window: the first, the last -/
theorem part_first {b st A l c h : Int} {ra rb r : Option Nat} (h1 : l ≤ c) (h2 : c < h) (fa : Fsb b st A l c ra) (fb : Fsb b st A (c + 1) h rb) (i : IsMin (somes [ra, rb]) r) : Fsb b st A l h r := by
  refine fsb_parts (os := [ra, rb]) (fun n hn => ?_) (fun n hn => ?_) i
  · simp only [List.mem_cons, List.not_mem_nil, or_false] at hn
    rcases hn with rfl | rfl
    · have := fa.1; unfold Inb at this ⊢; omega
    · have := fb.1; unfold Inb at this ⊢; omega
  · have split : Inb b st A l c n ∨ Inb b st A (c + 1) h n := by unfold Inb at hn ⊢; omega
    rcases split with s | s
    · cases ra with
      | none => exact absurd s (fa n)
      | some m => exact ⟨m, by simp, Nat.not_lt.mp fun z => fa.2 n z s⟩
    · cases rb with
      | none => exact absurd s (fb n)
      | some m => exact ⟨m, by simp, Nat.not_lt.mp fun z => fb.2 n z s⟩
theorem part_last {b st A l c h N : Int} {ra rb r : Option Nat} (h1 : l ≤ c) (h2 : c < h) (fa : Lsb b st A l c N ra) (fb : Lsb b st A (c + 1) h N rb) (i : IsMax (somes [ra, rb]) r) : Lsb b st A l h N r := by
  refine lsb_parts (os := [ra, rb]) (fun n hn => ?_) (fun n hN hn => ?_) i
  · simp only [List.mem_cons, List.not_mem_nil, or_false] at hn
    rcases hn with rfl | rfl
    · refine ⟨fa.1, ?_⟩
      have := fa.2.1; unfold Inb at this ⊢; omega
    · refine ⟨fb.1, ?_⟩
      have := fb.2.1; unfold Inb at this ⊢; omega
  · have split : Inb b st A l c n ∨ Inb b st A (c + 1) h n := by unfold Inb at hn ⊢; omega
    rcases split with s | s
    · cases ra with
      | none => exact absurd s (fa n hN)
      | some m => exact ⟨m, by simp, Nat.not_lt.mp fun z => fa.2.2 n z hN s⟩
    · cases rb with
      | none => exact absurd s (fb n hN)
      | some m => exact ⟨m, by simp, Nat.not_lt.mp fun z => fb.2.2 n z hN s⟩
/-! ### what holds behind a choice, however it went -/
theorem tif_join {t : TT} {a b : TE} {σ : L2.St} {H : Hp} {Q : VK} (v : V) (h1 : ∀ Q' : VK, (∀ G, Ex [] H G → Q' v G) → tIf t a b σ H Q') (h2 : ∀ G, Ex [] H G → Q v G) : tIf t a b σ H Q := h1 _ h2
theorem torv_join {t u : TE} {σ : L2.St} {H : Hp} {Q : VK} (v : V) (h1 : ∀ Q' : VK, Q' v H → tOrV t u σ H Q') (h2 : Q v H) : tOrV t u σ H Q := h1 _ h2
theorem tor_join {t u : TT} {σ : L2.St} {H : Hp} {Q : Bool → Hp → Prop} (v : Bool) (h1 : ∀ Q' : Bool → Hp → Prop, Q' v H → tOr t u σ H Q') (h2 : Q v H) : tOr t u σ H Q := h1 _ h2
end Hz
set_option Elab.async false
set_option linter.all false
namespace Hz
open PySem PyProof.Rows L2
section
variable {K : PySem.W.Frag} {g g1 : TG} {te : TE} {vs vs1 : List Nat} {σ : L2.St} {H : Hp} {tl tl1 : TE} {Q : VK}
/-- the inner list of a comprehension of two, told -/
def In2 (K : PySem.W.Frag) (g1 : TG) (te : TE) (vs1 : List Nat) (σ2 : L2.St) (D : Addr) (Nx : Hp → Prop) (v : V) (H3 : Hp) : Prop := ∃ (b : Addr) (ys : List V) (Pi : Nat → Hp → Prop), v = .ref b ∧ Pi 0 H3 ∧ (∀ j G, Pi j G → SqL K G b ys) ∧
  (∀ j y G, ys[j]? = some y → Pi j G → g1 y (wipe σ2 vs1) G fun σ3 H5 => wipe σ3 vs1 = wipe σ2 vs1 ∧ te σ3 H5 fun z H7 => ∃ acc, H7 D = some (.lst acc) ∧ acc.length < sizeLine ∧ Pi (j + 1) (upd H7 D (.lst (acc ++ [z])))) ∧ ∀ G, Pi ys.length G → Nx G
/-- the outer list, told -/
def Out2 (K : PySem.W.Frag) (g : TG) (tl1 : TE) (g1 : TG) (te : TE) (vs vs1 : List Nat) (σ : L2.St) (Q : VK) (v : V) (H1 : Hp) : Prop := ∃ (a : Addr) (xs : List V), v = .ref a ∧ SqL K H1 a xs ∧ ∀ D, H1 D = none → ∃ Pv : Nat → Hp → Prop, Pv 0 (upd H1 D (.lst [])) ∧ (∀ i G, Pv i G → SqL K G a xs) ∧
  (∀ i x G, xs[i]? = some x → Pv i G → ∀ Rg : L2.St → Hp → Prop, (∀ σ2 H2, wipe σ2 vs = wipe σ vs → (∀ Ri : VK, (∀ v H3, In2 K g1 te vs1 σ2 D (Pv (i + 1)) v H3 → Ri v H3) → tl1 σ2 H2 Ri) → Rg σ2 H2) → g x (wipe σ vs) G Rg) ∧ ∀ G, Pv xs.length G → Q (.ref D) G
theorem in2_ok {σ2 : L2.St} {D : Addr} {Nx : Hp → Prop} {v : V} {H3 : Hp} (h : In2 K g1 te vs1 σ2 D Nx v H3) : ∃ a, v = .ref a ∧ (∃ xs, SqL K H3 a xs) ∧ ∃ W1 : Nat → Nat → Hp → Prop, (∃ m, W1 0 m H3) ∧ ∀ j k G, W1 j k G → ((Itl K a).stop j G ∧ Nx G) ∨ ((Itl K a).go j G ∧ ∃ Nx1 : Hp → Prop, (∀ H', Nx1 H' → ∃ k', k' < k ∧ W1 (j + 1) k' H') ∧ ∀ x H', (Itl K a).yld j G x H' → g1 x (wipe σ2 vs1) H' fun σ3 H5 => wipe σ3 vs1 = wipe σ2 vs1 ∧ tYes σ3 H5 fun b H6 => if b = true then te σ3 H6 fun y H7 => ∃ acc, H7 D = some (.lst acc) ∧ acc.length < sizeLine ∧ Nx1 (upd H7 D (.lst (acc ++ [y]))) else Nx1 H6) := by
  obtain ⟨b, ys, Pi, rfl, p0, hl, hs, hd⟩ := h
  refine ⟨b, rfl, ⟨ys, hl 0 H3 p0⟩, fun j m G => j + m = ys.length ∧ Pi j G, ⟨ys.length, by omega, p0⟩, fun j m G hw => ?_⟩
  obtain ⟨e, p⟩ := hw
  cases m with
  | zero =>
    obtain rfl : j = ys.length := by omega
    exact .inl ⟨⟨ys, hl _ _ p, Nat.le_refl _⟩, hd G p⟩
  | succ m =>
    have l : j < ys.length := by omega
    refine .inr ⟨⟨ys, ys[j], hl _ _ p, List.getElem?_eq_getElem l⟩, Pi (j + 1), fun H' p' => ⟨m, by omega, by omega, p'⟩, fun x H' hv => ?_⟩
    obtain ⟨rfl, f⟩ := hv
    have := hs j x H' (f ys (hl _ _ p)) p
    simpa only [tYes, if_true, eq_self] using this
theorem z_lc2 (h : ∀ Rf : VK, (∀ v H1, Out2 K g tl1 g1 te vs vs1 σ Q v H1 → Rf v H1) → tl σ H Rf) : tLc2 (fun σ H R => iList K tl σ H R ∨ iTup K tl σ H R) g tYes (iList K tl1) g1 tYes te vs vs1 σ H Q := by
  refine .inl (h _ fun v H1 hv => ?_)
  obtain ⟨a, xs, rfl, hs, k⟩ := hv
  refine ⟨a, rfl, ⟨xs, hs⟩, fun D hD => ?_⟩
  obtain ⟨Pv, p0, hl, st, hd⟩ := k D hD
  refine ⟨fun i m G => i + m = xs.length ∧ Pv i G, ⟨xs.length, by omega, p0⟩, fun i m G hw => ?_⟩
  obtain ⟨e, p⟩ := hw
  cases m with
  | zero =>
    obtain rfl : i = xs.length := by omega
    exact .inl ⟨⟨xs, hl _ _ p, Nat.le_refl _⟩, hd G p⟩
  | succ m =>
    have l : i < xs.length := by omega
    refine .inr ⟨⟨xs, xs[i], hl _ _ p, List.getElem?_eq_getElem l⟩, Pv (i + 1), fun H' p' => ⟨m, by omega, by omega, p'⟩, fun x H' hv => ?_⟩
    obtain ⟨rfl, f⟩ := hv
    refine st i x H' (f xs (hl _ _ p)) p _ fun σ2 H2 hw hi => ⟨hw, ?_⟩
    show tYes σ2 H2 _
    simp only [tYes, if_true, eq_self]
    exact hi _ fun v H3 hv => in2_ok hv
end
end Hz
set_option Elab.async false
set_option linter.all false
set_option maxRecDepth 100000
set_option maxHeartbeats 4000000
namespace Z64
open PySem PySem.Spec PyProof.Rows L2 Hz
section
variable {P : Program} {w : World} {K : PySem.W.Frag} {mg : Str → Option Value} {base : Heap}
local macro_rules | `(tactic| walk_at "un") => `(tactic| try dsimp only [tSeq, tIfS, tRet, tAsg, tDrop, tOr, tAnd, tNot, tAndV, tOrV, tNotV, tTest, tB, tOp, tUn, tCB, tCons, tNil, tC, tNext, tIf, tChain, gName, tPar, tPar3, tTup, tLst])
def pairD (p : Int × Int) : PyData := sq true [.int p.1, .int p.2]
def kOf (H : Hp) : V → Int × Int
  | .ref t => match H t with
    | some (.tup [.int a, .int b]) => (a, b)
    | _ => (0, 0)
  | _ => (0, 0)
theorem kOf_tup {H : Hp} {t : Addr} {a b : Int} (h : H t = some (.tup [.int a, .int b])) : kOf H (.ref t) = (a, b) := by
  simp only [kOf, h]
theorem lex_le {a b : Int × Int} (h : SrtO.lexB b a = false) : a.1 ≤ b.1 := by
  unfold SrtO.lexB at h
  split at h
  · omega
  · have := of_decide_eq_false h
    omega
def spUnmet (K : PySem.W.Frag) : Sp := fun vs H Q _ => ∃ (g : Int) (as : List (Int × Int)) (A : Addr) (us : List V), vs = [.int g, .ref A] ∧ 0 < g ∧ SqL K H A us ∧ DpAll K H us (as.map pairD) ∧ (∀ a, a ∈ as → a.1 ≤ a.2) ∧ as.length ≤ 5000 ∧
  ∀ l p ws H', Gaps g (OnArc g as) l → l.length ≤ 2 * as.length + 1 → H p = none → H' p = some (.lst ws) → (∀ B : List Addr, (∀ b ∈ B, H b ≠ none) → DpAll K (wo (p :: B) H') ws (l.map pairD)) → Ex [] H H' → Q (.ref p) H'
theorem parts_snoc (g : Int) (as : List (Int × Int)) (a : Int × Int) : parts g (as ++ [a]) = parts g as ++ [(a.1 % g, a.1 % g + a.2 - a.1), (a.1 % g - g, a.1 % g + a.2 - a.1 - g)] := by
  unfold parts
  rw [List.flatMap_append]
  simp
theorem parts_len (g : Int) (as : List (Int × Int)) : (parts g as).length = 2 * as.length := by
  unfold parts
  induction as with
  | nil => rfl
  | cons a as ih =>
    rw [List.flatMap_cons, List.length_append, ih]
    simp
    omega
/-- a list of new pairs -/
structure PartsAt (H H' : Hp) (p2 : Addr) (ts : List (Addr × Int × Int)) : Prop where
  lst : H' p2 = some (.lst (ts.map fun t => V.ref t.1))
  tup : ∀ t, t ∈ ts → H' t.1 = some (.tup [.int t.2.1, .int t.2.2])
  ex : Ex [] H H'
theorem PartsAt.snoc {H H' : Hp} {p2 pa : Addr} {ts : List (Addr × Int × Int)} {c d : Int} (hp2 : H p2 = none) (h : PartsAt H H' p2 ts) (hpa : H' pa = none) : PartsAt H (upd (upd H' pa (.tup [.int c, .int d])) p2 (.lst (ts.map (fun t => V.ref t.1) ++ [V.ref pa]))) p2 (ts ++ [(pa, c, d)]) where
  lst := by rw [upd_same, List.map_append]; rfl
  tup := fun t ht => by
    have npa : pa ≠ p2 := fun z => by rw [z, h.lst] at hpa; cases hpa
    rcases List.mem_append.mp ht with z | z
    · have e := h.tup t z
      have n1 : t.1 ≠ p2 := fun z => by rw [z, h.lst] at e; cases e
      have n2 : t.1 ≠ pa := fun z => by rw [z, hpa] at e; cases e
      rw [upd_ne n1, upd_ne n2]
      exact e
    · rw [List.mem_singleton.mp z]
      exact (upd_ne npa).trans upd_same
  ex := (h.ex.trans (Ex.new hpa)).mutNew' hp2
theorem ok_unmet (T : Txt K mg) : FnOk P w K mg base CX0 1 T.a_unmet T.d_unmet P_unmet (spUnmet K) := by
  have nd := sc_unmet.nd
  refine T.F_unmet.ok sc_unmet (fun vs H Q E h => ?_) (fun cdv A outer s H vs Q E hr h => ?_)
  · obtain ⟨g, as, A, us, rfl, _⟩ := h
    rfl
  · obtain ⟨g, as, Aa, us, rfl, g0, hS, hU, hle, hlen, q⟩ := h
    refine ⟨_, (pss_cons (ps_set (i := 2) nd rfl (Or.inl rfl) (pe_lst pa_nil))
      (pss_cons (ps_for PassesOwn.never rfl (pi_seqK K (pv 1)) (pg_tupK K 2 (by rfl) (pgs_cons (pg_name (i := 3) nd rfl (Or.inl rfl)) (pgs_cons (pg_name (i := 4) nd rfl (Or.inl rfl)) pgs_nil))) (pss_cons (ps_set (i := 5) nd rfl (Or.inl rfl) (pe_op op_mod (pv 3) (pv 0)))
      (pss_cons (ps_set (i := 6) nd rfl (Or.inl rfl) (pe_op op_sub (pe_op op_add (pv 5) (pv 4)) (pv 3)))
      (pss_cons (ps_expr (pe_bm PySem.F.plainAttrs_list PySem.F.slot_list_append PySem.F.type_list_append mt_append (pv 2) (pa_cons (pe_tup (pa_cons (pv 5) (pa_cons (pv 6) pa_nil))) pa_nil)))
      (pss_one (ps_expr (pe_bm PySem.F.plainAttrs_list PySem.F.slot_list_append PySem.F.type_list_append mt_append (pv 2) (pa_cons (pe_tup (pa_cons (pe_op op_sub (pv 5) (pv 0)) (pa_cons (pe_op op_sub (pv 6) (pv 0)) pa_nil))) pa_nil))))))))
      (pss_cons (ps_set (i := 7) nd rfl (Or.inl rfl) (pe_lst pa_nil))
      (pss_cons (ps_set (i := 8) nd rfl (Or.inl rfl) pe_int)
      (pss_cons (ps_for PassesOwn.never rfl (pi_listK K (pe_callB cr_sortedPO (by rfl) T.z_sorted (by decide +kernel) (pa_cons (pv 2) pa_nil))) (pg_tupK K 2 (by rfl) (pgs_cons (pg_name (i := 5) nd rfl (Or.inl rfl)) (pgs_cons (pg_name (i := 6) nd rfl (Or.inl rfl)) pgs_nil))) (pss_cons (ps_if (pt_cmpR op_lt (pv 8) (pv 5) (nomark _)) (pss_one (ps_expr (pe_bm PySem.F.plainAttrs_list PySem.F.slot_list_append PySem.F.type_list_append mt_append (pv 7) (pa_cons (pe_tup (pa_cons (pv 8) (pa_cons (pe_op op_sub (pv 5) pe_int) pa_nil))) pa_nil)))) pss_nil)
      (pss_one (ps_set (i := 8) nd rfl (Or.inl rfl) (pe_callB (call_max2 rfl) (by rfl) T.z_max (by decide +kernel) (pa_cons (pv 8) (pa_cons (pe_op op_add (pv 6) pe_int) pa_nil)))))))
      (pss_cons (ps_if (pt_cmpR op_lt (pv 8) (pv 0) (nomark _)) (pss_one (ps_expr (pe_bm PySem.F.plainAttrs_list PySem.F.slot_list_append PySem.F.type_list_append mt_append (pv 7) (pa_cons (pe_tup (pa_cons (pv 8) (pa_cons (pe_op op_sub (pv 0) pe_int) pa_nil))) pa_nil)))) pss_nil)
      (pss_one (ps_ret (pv 7))))))))), ?_⟩
    have est : L2.start N_unmet [.int g, .ref Aa] = [some (.int g), some (.ref Aa), none, none, none, none, none, none, none] := rfl
    rw [est]
    clear est
    have lus := dpa_len hU
    rw [List.length_map] at lus
    dsimp only [tSeq, tAsg, gName, tLst, tNil]
    refine ⟨Nat.zero_le _, fun p2 hp2 => ?_⟩
    have x1 := Ex.new (B := []) (o := .lst []) hp2
    dsimp only [List.set_cons_zero, List.set_cons_succ]
    refine Or.inl (z_forL fun Rf hRf => ⟨_, rfl, hRf _ _ ⟨Aa, us, fun j σ H' => ∃ (ts : List (Addr × Int × Int)) (u3 u4 u5 u6 : Option V), σ = [some (.int g), some (.ref Aa), some (.ref p2), u3, u4, u5, u6, none, none] ∧ ts.map (·.2) = parts g (as.take j) ∧ PartsAt H H' p2 ts, rfl,
      ⟨[], _, _, _, _, rfl, rfl, ⟨upd_same, fun t ht => by simp at ht, x1⟩⟩, fun i σ' H' _ ⟨_, _, _, _, _, _, _, x⟩ => le_l x.ex.le0 hS, fun j x σ' H' hx hP => ?_, fun σ' H' hP => ?_⟩⟩)
    · obtain ⟨ts, u3, u4, u5, u6, rfl, e1, PA⟩ := hP
      have xj := PA.ex
      have e2 := PA.lst
      obtain ⟨d, hd, hDd⟩ := dpa_get' hU hx
      rw [List.getElem?_map] at hd
      obtain ⟨ar, har, rfl⟩ := Option.map_eq_some_iff.mp hd
      obtain ⟨xa, xs, rfl, hxS, hxA⟩ := dp_sq (t := true) (ds := [.int ar.1, .int ar.2]) (dp_le xj.le0 _ _ hDd)
      cases hxA with | @cons v0 _ _ _ k1 hxA => cases hxA with | @cons v1 _ _ _ k2 hxA =>
      cases hxA
      obtain rfl := dp_int k1
      obtain rfl := dp_int k2
      have lj := (List.getElem?_eq_some_iff.mp hx).1
      have lts : ts.length ≤ 10000 := by
        have := congrArg List.length e1
        rw [List.length_map, parts_len, List.length_take] at this
        omega
      refine ⟨xa, _, rfl, hxS, rfl, _, _, rfl, _, _, rfl, rfl, ?_⟩
      dsimp only [List.set_cons_zero, List.set_cons_succ]
      walk_at "un"
      refine ⟨_, rfl, _, rfl, _, _, rfl, rfl, g0, _, rfl, _, rfl, _, _, rfl, rfl, _, rfl, _, _, rfl, rfl, ?_⟩
      refine ⟨_, rfl, .inl ⟨rfl, _, SqL.of e2⟩, _, rfl, _, rfl, (by show 2 ≤ sizeLine; decide), fun pa hpa => ?_⟩
      dsimp only [tNil, List.set_cons_zero, List.set_cons_succ]
      have npa : pa ≠ p2 := fun z => by rw [z, e2] at hpa; cases hpa
      refine ⟨p2, _, _, rfl, rfl, (Ex.new (B := []) hpa).get (by simp) e2, sz_lt (by rw [List.length_map]; omega), ?_⟩
      have P1 := PA.snoc hp2 hpa (c := ar.1 % g) (d := ar.1 % g + ar.2 - ar.1)
      generalize upd (upd H' pa (.tup [.int (ar.1 % g), .int (ar.1 % g + ar.2 - ar.1)])) p2 (.lst (ts.map (fun t => V.ref t.1) ++ [V.ref pa])) = H5 at P1 ⊢
      refine ⟨_, rfl, .inl ⟨rfl, _, SqL.of P1.lst⟩, _, rfl, _, rfl, _, _, rfl, rfl, _, rfl, _, rfl, _, _, rfl, rfl, (by show 2 ≤ sizeLine; decide), fun pb hpb => ?_⟩
      refine ⟨p2, _, _, rfl, rfl, (Ex.new (B := []) hpb).get (by simp) P1.lst, sz_lt (by rw [List.length_map, List.length_append, List.length_singleton]; omega), ?_⟩
      have P2 := P1.snoc hp2 hpb (c := ar.1 % g - g) (d := ar.1 % g + ar.2 - ar.1 - g)
      refine ⟨_, _, _, _, _, rfl, ?_, P2⟩
      rw [List.map_append, List.map_append, e1]
      have et : as.take (j + 1) = as.take j ++ [ar] := by
        rw [List.take_add_one, har]
        rfl
      rw [et, parts_snoc, List.append_assoc]
      rfl
    · obtain ⟨ts, u3, u4, u5, u6, rfl, e1, PA⟩ := hP
      rw [lus, List.take_length] at e1
      have tsl0 : ts.length = 2 * as.length := by
        have := congrArg List.length e1
        rwa [List.length_map, parts_len] at this
      have tsl : ts.length ≤ 10000 := by omega
      dsimp only [tSeq, tAsg, gName, tLst, tNil, tC]
      refine ⟨Nat.zero_le _, fun p7 hp7 => ?_⟩
      have y7 := Ex.new (B := []) (o := .lst []) hp7
      have g2 := y7.get (by simp) PA.lst
      have gt : ∀ t, t ∈ ts → upd H' p7 (.lst []) t.1 = some (.tup [.int t.2.1, .int t.2.2]) := fun t ht => y7.get (by simp) (PA.tup t ht)
      have g7 := upd_same (H := H') (a := p7) (o := .lst [])
      have x7 := PA.ex.trans y7
      have p70 : H p7 = none := PA.ex.free hp7
      revert y7 g2 gt g7 x7
      generalize upd H' p7 (.lst []) = H7
      intro y7 g2 gt g7 x7
      dsimp only [List.set_cons_zero, List.set_cons_succ]
      refine z_forL fun Rf hRf => ?_
      refine ⟨_, rfl, p2, ts.map (fun t => V.ref t.1), kOf H7, rfl, SqL.of g2, fun x hx => ?_, fun ys ps srt stb hps => ?_⟩
      · obtain ⟨t, ht, rfl⟩ := List.mem_map.mp hx
        exact ⟨t.1, rfl, by rw [kOf_tup (gt t ht)]; exact gt t ht⟩
      have y8 := Ex.new (B := []) (o := .lst ys) hps
      have g8 := upd_same (H := H7) (a := ps) (o := .lst ys)
      have n78 : ps ≠ p7 := fun z => by rw [z, g7] at hps; cases hps
      have g78 := y8.get (by simp) g7
      have memY : ∀ y, y ∈ ys → ∃ t, t ∈ ts ∧ y = V.ref t.1 := fun y hy => by
        obtain ⟨t, ht, e⟩ := List.mem_map.mp (stb.perm.mem_iff.mp hy)
        exact ⟨t, ht, e.symm⟩
      obtain ⟨qs, eqs⟩ : ∃ qs, qs = ys.map (kOf H7) := ⟨_, rfl⟩
      have memQ : ∀ p, p ∈ qs ↔ p ∈ parts g as := fun p => by
        rw [eqs, List.mem_map, ← e1, List.mem_map]
        constructor
        · rintro ⟨y, hy, rfl⟩
          obtain ⟨t, ht, rfl⟩ := memY y hy
          exact ⟨t, ht, by rw [kOf_tup (gt t ht)]⟩
        · rintro ⟨t, ht, rfl⟩
          exact ⟨V.ref t.1, stb.perm.mem_iff.mpr (List.mem_map.mpr ⟨t, ht, rfl⟩), by rw [kOf_tup (gt t ht)]⟩
      have lenY : ys.length = ts.length := by rw [stb.perm.length_eq, List.length_map]
      have pwQ : ∀ (i j : Nat) (p q : Int × Int), qs[i]? = some p → qs[j]? = some q → i ≤ j → p.1 ≤ q.1 := fun i j p q hp hq ij => by
        rw [eqs, List.getElem?_map] at hp hq
        obtain ⟨yi, hyi, rfl⟩ := Option.map_eq_some_iff.mp hp
        obtain ⟨yj, hyj, rfl⟩ := Option.map_eq_some_iff.mp hq
        rcases Nat.lt_or_ge i j with c | c
        · obtain ⟨l1, rfl⟩ := List.getElem?_eq_some_iff.mp hyi
          obtain ⟨l2, rfl⟩ := List.getElem?_eq_some_iff.mp hyj
          exact lex_le (List.pairwise_iff_getElem.mp srt i j l1 l2 c)
        · have : i = j := by omega
          subst this
          rw [hyi] at hyj
          cases hyj
          exact Int.le_refl _
      have okQ : ∀ p, p ∈ qs → p.1 ≤ p.2 ∧ p.1 < g := fun p hp => by
        obtain ⟨a, ha, e⟩ := mem_parts.mp ((memQ p).mp hp)
        have := hle a ha
        have := Int.emod_lt_of_pos a.1 g0
        rcases e with rfl | rfl <;> dsimp only <;> omega
      have lQ : qs.length = ys.length := by rw [eqs, List.length_map]
      have xps := x7.trans y8
      have g8t : ∀ t, t ∈ ts → upd H7 ps (.lst ys) t.1 = some (.tup [.int t.2.1, .int t.2.2]) := fun t ht => y8.get (by simp) (gt t ht)
      refine hRf _ _ ⟨ps, ys, fun j σ G => ∃ (f : Int) (l : List (Int × Int)) (ws : List V) (u3 u4 u5 u6 : Option V), σ = [some (.int g), some (.ref Aa), some (.ref p2), u3, u4, u5, u6, some (.ref p7), some (.int f)] ∧ Swept g qs f l ∧ (∀ i q, i < j → qs[i]? = some q → q.2 < f) ∧ G p7 = some (.lst ws) ∧ ws.length = l.length ∧ l.length ≤ j ∧ (∀ B : List Addr, (∀ b ∈ B, H b ≠ none) → DpAll K (wo (p7 :: B) G) ws (l.map pairD)) ∧ G ps = some (.lst ys) ∧ (∀ t, t ∈ ts → G t.1 = some (.tup [.int t.2.1, .int t.2.2])) ∧ Ex [] H G, rfl,
        ⟨0, [], [], _, _, _, _, rfl, Swept.zero g qs, fun i q z => absurd z (Nat.not_lt_zero _), g78, rfl, Nat.le_refl _, fun _ _ => .nil, g8, g8t, xps⟩, fun j σ' G _ ⟨_, _, _, _, _, _, _, _, _, _, _, _, _, _, w, _⟩ => SqL.of w, fun j y σ' G hy hP => ?_, fun σ' G hP => ?_⟩
      · obtain ⟨f, l, ws, u3, u4, u5, u6, rfl, sw, dn, w7, lws, ll, hU, wps, wt, xG⟩ := hP
        obtain ⟨t, ht, rfl⟩ := memY y (List.mem_of_getElem? hy)
        have hq : qs[j]? = some t.2 := by rw [eqs, List.getElem?_map, hy]; show some (kOf H7 (V.ref t.1)) = _; rw [kOf_tup (gt t ht)]
        obtain ⟨q1, q2⟩ := okQ _ (List.mem_of_getElem? hq)
        have lj := (List.getElem?_eq_some_iff.mp hy).1
        have done : ∀ p, p ∈ qs → p.2 < f ∨ t.2.1 ≤ p.1 := fun p hp => by
          obtain ⟨i, hi⟩ := List.mem_iff_getElem?.mp hp
          rcases Nat.lt_or_ge i j with c | c
          · exact .inl (dn i p c hi)
          · exact .inr (pwQ j i _ p hq hi c)
        refine ⟨t.1, _, rfl, SqT.of (wt t ht), rfl, _, _, rfl, _, _, rfl, rfl, ?_⟩
        dsimp only [List.set_cons_zero, List.set_cons_succ]
        walk_at "un"
        refine ⟨_, rfl, _, rfl, _, _, rfl, rfl, _, rfl, ite2 (fun c => ?_) (fun c => ?_)⟩
        · have c' : f < t.2.1 := of_decide_eq_true c
          refine ⟨_, rfl, .inl ⟨rfl, _, SqL.of w7⟩, _, rfl, _, rfl, _, _, rfl, rfl, (by show 2 ≤ sizeLine; decide), fun pa hpa => ?_⟩
          have npa : pa ≠ p7 := fun z => by rw [z, w7] at hpa; cases hpa
          have nps : ps ≠ p7 := n78
          dsimp only
          refine ⟨p7, _, _, rfl, rfl, (Ex.new (B := []) hpa).get (by simp) w7, sz_lt (by omega), ?_⟩
          have ya := Ex.new (B := []) (o := .tup [.int f, .int (t.2.1 - 1)]) hpa
          have xa := (xG.trans ya).mutNew' p70 (o := .lst (ws ++ [.ref pa]))
          have yb : ∀ B : List Addr, Ex (p7 :: B) (upd G pa (.tup [.int f, .int (t.2.1 - 1)])) (upd (upd G pa (.tup [.int f, .int (t.2.1 - 1)])) p7 (.lst (ws ++ [.ref pa]))) := fun B => Ex.mut (by simp)
          refine ⟨_, rfl, _, rfl, _, _, rfl, rfl, _, _, rfl, ?_⟩
          refine ⟨t.2.2 + 1, l ++ [(f, t.2.1 - 1)], ws ++ [.ref pa], u3, u4, some (.int t.2.1), some (.int t.2.2), ?_, sw.gap (List.mem_of_getElem? hq) q1 q2 done c', fun i q il hi => ?_, upd_same, by rw [List.length_append, List.length_append, lws]; rfl, by rw [List.length_append, List.length_singleton]; omega, fun B hB => ?_, by rw [upd_ne nps]; exact ya.get (by simp) wps, fun t' ht' => ?_, xa⟩
          · rw [if_pos (by omega)]
            rfl
          · rcases Nat.lt_or_ge i j with z | z
            · have := dn i q z hi
              omega
            · have : i = j := by omega
              subst this
              rw [hq] at hi
              cases hi
              omega
          · rw [List.map_append]
            have hB2 : ∀ b ∈ p7 :: B, G b ≠ none := fun b hb z => by
              rcases List.mem_cons.mp hb with e | e
              · rw [e, w7] at z; cases z
              · exact hB b e (xG.free z)
            have npB : pa ∉ p7 :: B := fun z => hB2 pa z hpa
            exact dpa_snoc (dpa_le ((Ex.nil ya).trans (yb B)).wo _ _ (hU B hB)) (.tup (xs := [.int f, .int (t.2.1 - 1)]) (SqT.of (wo_of npB (by rw [upd_ne npa, upd_same]))) (dpa_of_ints [f, t.2.1 - 1]))
          · have e := ya.get (by simp) (wt t' ht')
            have n1 : t'.1 ≠ p7 := fun z => by rw [z, ya.get (by simp) w7] at e; cases e
            rw [upd_ne n1]
            exact e
        · have c' : ¬ f < t.2.1 := of_decide_eq_false (Bool.eq_false_iff.mpr c)
          refine ⟨_, rfl, _, rfl, _, _, rfl, rfl, _, _, rfl, ?_⟩
          refine ⟨max f (t.2.2 + 1), l, ws, u3, u4, some (.int t.2.1), some (.int t.2.2), ?_, sw.on (b := t.2.1) (e := t.2.2) (List.mem_of_getElem? hq) (show t.2.1 ≤ f by omega), fun i q il hi => ?_, w7, lws, by omega, hU, wps, wt, xG⟩
          · have : (if t.2.2 + 1 > f then t.2.2 + 1 else f) = max f (t.2.2 + 1) := by split <;> omega
            rw [this]
            rfl
          · rcases Nat.lt_or_ge i j with z | z
            · have := dn i q z hi
              omega
            · have : i = j := by omega
              subst this
              rw [hq] at hi
              cases hi
              omega
      · obtain ⟨f, l, ws, u3, u4, u5, u6, rfl, sw, dn, w7, lws, ll, hU, wps, wt, xG⟩ := hP
        have done : ∀ p, p ∈ qs → p.2 < f := fun p hp => by
          obtain ⟨i, hi⟩ := List.mem_iff_getElem?.mp hp
          exact dn i p (by rw [← lQ]; exact (List.getElem?_eq_some_iff.mp hi).1) hi
        have cong : ∀ {l'}, Gaps g (Cov qs) l' → Gaps g (OnArc g as) l' := fun h => h.congr fun x x0 xg => by
          rw [← cov_parts g0 x0 xg]
          exact ⟨fun ⟨p, hp, z⟩ => ⟨p, (memQ p).mp hp, z⟩, fun ⟨p, hp, z⟩ => ⟨p, (memQ p).mpr hp, z⟩⟩
        walk_at "un"
        refine ⟨_, rfl, _, rfl, _, _, rfl, rfl, _, rfl, ite2 (fun c => ?_) (fun c => ?_)⟩
        · have c' : f < g := of_decide_eq_true c
          refine ⟨_, rfl, .inl ⟨rfl, _, SqL.of w7⟩, _, rfl, _, rfl, _, _, rfl, rfl, (by show 2 ≤ sizeLine; decide), fun pa hpa => ?_⟩
          have npa : pa ≠ p7 := fun z => by rw [z, w7] at hpa; cases hpa
          dsimp only
          refine ⟨p7, _, _, rfl, rfl, (Ex.new (B := []) hpa).get (by simp) w7, sz_lt (by omega), ?_⟩
          have ya := Ex.new (B := []) (o := .tup [.int f, .int (g - 1)]) hpa
          have xa := (xG.trans ya).mutNew' p70 (o := .lst (ws ++ [.ref pa]))
          have yb : ∀ B : List Addr, Ex (p7 :: B) (upd G pa (.tup [.int f, .int (g - 1)])) (upd (upd G pa (.tup [.int f, .int (g - 1)])) p7 (.lst (ws ++ [.ref pa]))) := fun B => Ex.mut (by simp)
          refine ⟨_, rfl, q (l ++ [(f, g - 1)]) p7 _ _ (cong (sw.last done c')) (by rw [List.length_append, List.length_singleton]; omega) p70 upd_same (fun B hB => ?_) xa⟩
          rw [List.map_append]
          have hB2 : ∀ b ∈ p7 :: B, G b ≠ none := fun b hb z => by
            rcases List.mem_cons.mp hb with e | e
            · rw [e, w7] at z; cases z
            · exact hB b e (xG.free z)
          have npB : pa ∉ p7 :: B := fun z => hB2 pa z hpa
          exact dpa_snoc (dpa_le ((Ex.nil ya).trans (yb B)).wo _ _ (hU B hB)) (.tup (xs := [.int f, .int (g - 1)]) (SqT.of (wo_of npB (by rw [upd_ne npa, upd_same]))) (dpa_of_ints [f, g - 1]))
        · have c' : ¬ f < g := of_decide_eq_false (Bool.eq_false_iff.mpr c)
          exact ⟨_, rfl, q l p7 ws G (cong (sw.all c')) (by omega) p70 w7 hU xG⟩
def gcdI (h : Hill) : Int := ((Nat.gcd h.drops.natAbs h.needs.sum.natAbs : Nat) : Int)
theorem ok_common (T : Txt K mg) : FnOk P w K mg base CX0 2 T.a_common T.d_common P_common (spHill K fun h => .int (gcdI h)) := by
  have nd := sc_common.nd
  have G_year_drops := ok_year_drops (P := P) (w := w) (base := base) T
  have G_ring_needs := ok_ring_needs (P := P) (w := w) (base := base) T
  refine T.F_common.ok sc_common (fun vs H Q E h => ?_) (fun cdv A outer s H vs Q E hr h => ?_)
  · obtain ⟨t, h, v, rfl, _⟩ := h
    rfl
  · obtain ⟨t, h, v, rfl, hD, hk, q⟩ := h
    have hr_year_drops := hr
    have hr_ring_needs := hr
    refine ⟨_, (pss_one (ps_ret (pe_callBfun cr_gcd (by rfl) T.m_gcd (pa_cons (pe_call G_year_drops hr_year_drops (by rfl) T.m_year_drops T.k_year_drops T.b_year_drops .nil pass0 (pa_cons (pv 0) pa_nil)) (pa_cons (pe_call G_ring_needs hr_ring_needs (by rfl) T.m_ring_needs T.k_ring_needs T.b_ring_needs .nil pass0 (pa_cons (pv 0) pa_nil)) pa_nil))))), ?_⟩
    walk_at "un"
    refine ⟨_, rfl, t, h, v, rfl, hD, hk, fun H1 x1 => ⟨_, rfl, t, h, v, rfl, dp_le x1.le0 _ _ hD, hk, fun H2 x2 => ⟨_, _, rfl, ?_⟩⟩⟩
    exact q H2 (x1.trans x2)
theorem gcd_pos {h : Hill} (hk : HillOk h) : 0 < gcdI h := by
  have := hk.dr
  have : 0 < Nat.gcd h.drops.natAbs h.needs.sum.natAbs := Nat.gcd_pos_of_pos_left _ (by omega)
  unfold gcdI
  omega
theorem gcd_drops {h : Hill} (hk : HillOk h) : ∃ d : Int, h.drops = gcdI h * d := by
  have := hk.dr
  obtain ⟨d, e⟩ := Nat.gcd_dvd_left h.drops.natAbs h.needs.sum.natAbs
  refine ⟨d, ?_⟩
  unfold gcdI
  rw [← Int.natCast_mul, ← e]
  omega
/-- at some turn's number, round and round, something is lost -/
def Lossy (h : Hill) (a : Nat) (x : Int) : Prop := ∃ k : Nat, k < h.needs.length ∧ ∃ j : Int, 0 < h.lostZ (x + h.needN a (k + 1) + j * gcdI h)
noncomputable def arcsOf (h : Hill) (a : Nat) (l : List Int) : List (Int × Int) := l.flatMap fun low => (List.range h.needs.length).map fun k => (low - h.needN a (k + 1), low + h.lostZ low - 1 - h.needN a (k + 1))
theorem arcs_mem {h : Hill} {a : Nat} {l : List Int} {p : Int × Int} : p ∈ arcsOf h a l ↔ ∃ low, low ∈ l ∧ ∃ k, k < h.needs.length ∧ p = (low - h.needN a (k + 1), low + h.lostZ low - 1 - h.needN a (k + 1)) := by
  unfold arcsOf
  rw [List.mem_flatMap]
  constructor
  · rintro ⟨low, hl, hp⟩
    obtain ⟨k, hk, e⟩ := List.mem_map.mp hp
    exact ⟨low, hl, k, List.mem_range.mp hk, e.symm⟩
  · rintro ⟨low, hl, k, hk, rfl⟩
    exact ⟨low, hl, List.mem_map.mpr ⟨k, List.mem_range.mpr hk, rfl⟩⟩
theorem onarc_iff {h : Hill} (hk : HillOk h) {a : Nat} {l : List Int} (o : h.Lows l) (x : Int) : OnArc (gcdI h) (arcsOf h a l) x ↔ Lossy h a x := by
  have hd := hk.dr
  constructor
  · rintro ⟨p, hp, j, h1, h2⟩
    obtain ⟨low, hl, k, kn, rfl⟩ := arcs_mem.mp hp
    refine ⟨k, kn, j, (Hill.lost_iff hk.L0 hk.nn hk.op hk.dr hk.m0 o _).mpr ⟨low, hl, ?_⟩⟩
    dsimp only at h1 h2
    have : 0 ≤ x + h.needN a (k + 1) + j * gcdI h - low := by omega
    have em := Int.mul_ediv_add_emod (x + h.needN a (k + 1) + j * gcdI h - low) h.drops
    have : 0 ≤ h.drops * ((x + h.needN a (k + 1) + j * gcdI h - low) / h.drops) := Int.mul_nonneg (by omega) (Int.ediv_nonneg (by omega) (by omega))
    omega
  · rintro ⟨k, kn, j, pos⟩
    obtain ⟨low, hl, c⟩ := (Hill.lost_iff hk.L0 hk.nn hk.op hk.dr hk.m0 o _).mp pos
    obtain ⟨d, ed⟩ := gcd_drops hk
    refine ⟨_, arcs_mem.mpr ⟨low, hl, k, kn, rfl⟩, j - d * ((x + h.needN a (k + 1) + j * gcdI h - low) / h.drops), ?_⟩
    have em := Int.mul_ediv_add_emod (x + h.needN a (k + 1) + j * gcdI h - low) h.drops
    have e0 := Int.emod_nonneg (x + h.needN a (k + 1) + j * gcdI h - low) (show h.drops ≠ 0 by omega)
    have e2 : (j - d * ((x + h.needN a (k + 1) + j * gcdI h - low) / h.drops)) * gcdI h = j * gcdI h - h.drops * ((x + h.needN a (k + 1) + j * gcdI h - low) / h.drops) := by
      generalize (x + h.needN a (k + 1) + j * gcdI h - low) / h.drops = Z
      rw [Int.sub_mul, show d * Z * gcdI h = gcdI h * d * Z by rw [Int.mul_comm (d * Z), Int.mul_assoc], ← ed]
    rw [e2]
    dsimp only
    omega
def spSparing (K : PySem.W.Frag) : Sp := fun vs H Q _ => ∃ (t : Bool) (h : Hill) (v : V) (a : Nat), vs = [v, .int a] ∧ Dp K H v (h.dat t) ∧ HillOk h ∧
  ∀ l p ws H', Gaps (gcdI h) (Lossy h a) l → l.length ≤ 900 → H p = none → H' p = some (.lst ws) → (∀ B : List Addr, (∀ b ∈ B, H b ≠ none) → DpAll K (wo (p :: B) H') ws (l.map pairD)) → Ex [] H H' → Q (.ref p) H'
theorem ok_sparing (T : Txt K mg) : FnOk P w K mg base CX0 5 T.a_sparing T.d_sparing P_sparing (spSparing K) := by
  have nd := sc_sparing.nd
  have G_needed := ok_needed (P := P) (w := w) (base := base) T
  have G_stretches := ok_stretches (P := P) (w := w) (base := base) T
  have G_unmet := ok_unmet (P := P) (w := w) (base := base) T
  have G_common := ok_common (P := P) (w := w) (base := base) T
  refine T.F_sparing.ok sc_sparing (fun vs H Q E h => ?_) (fun cdv A outer s H vs Q E hr h => ?_)
  · obtain ⟨t, h, v, a, rfl, _⟩ := h
    rfl
  · obtain ⟨t, h, v, a, rfl, hD, hk, q⟩ := h
    have hr_needed := hr.mono (show 2 ≤ 4 by decide)
    have hr_stretches := hr
    have hr_unmet := hr.mono (show 1 ≤ 4 by decide)
    have hr_common := hr.mono (show 2 ≤ 4 by decide)
    have hn1 := hk.n1
    have hn2 := hk.n2
    refine ⟨_, (pss_cons (ps_set (i := 2) nd rfl (Or.inl rfl) (pe_callB (lenK K) (by rfl) T.z_len (by decide +kernel) (pa_cons (pe_ix (ixK K) (pv 0) pe_int (fun _ _ => rfl)) pa_nil)))
      (pss_cons (ps_set (i := 3) nd rfl (Or.inr rfl) (pe_lc (own := [("many", 5)]) (by rfl) nd (pi_range2W (by rfl) T.z_range (pa_cons pe_int (pa_cons (pe_op op_add (pv 2) pe_int) pa_nil))) (blkOk_by (N := N_sparing) (own := [("many", 5)]) (sc := defScope s_sparing) (by decide +kernel)) (fun _ _ _ _ _ => pg_name (i := 5) nd rfl (Or.inl rfl)) (fun _ _ _ _ _ => pts_nil) (fun _ _ _ _ _ => (pe_call G_needed hr_needed (by rfl) T.m_needed T.k_needed T.b_needed .nil pass0 (pa_cons (pv 0) (pa_cons (pv 1) (pa_cons (pv 5) pa_nil)))))))
      (pss_cons (ps_setLc2 (i := 4) (own := [("low", 6), ("high", 7), ("total", 8)]) (vs1 := [8]) (by rfl) nd rfl rfl (sw_true rfl rfl rfl (by decide +kernel)) (pi_seqK K (pe_call G_stretches hr_stretches (by rfl) T.m_stretches T.k_stretches T.b_stretches .nil pass0 (pa_cons (pv 0) pa_nil))) (blkOk_by (N := N_sparing) (own := [("low", 6), ("high", 7), ("total", 8)]) (sc := defScope s_sparing) (by decide +kernel)) (by decide) (fun _ _ _ _ _ => (pg_tupK K 2 (by rfl) (pgs_cons (pg_name (i := 6) nd rfl (Or.inl rfl)) (pgs_cons (pg_name (i := 7) nd rfl (Or.inl rfl)) pgs_nil)))) (fun _ _ _ _ _ => pts_nil) (fun _ _ _ _ _ => (pi_listK K (pv 3))) (fun _ _ _ _ _ => pg_name (i := 8) nd rfl (Or.inl rfl)) (fun _ _ _ _ _ => pts_nil) (fun _ _ _ _ _ => (pe_tup (pa_cons (pe_op op_sub (pv 6) (pv 8)) (pa_cons (pe_op op_sub (pv 7) (pv 8)) pa_nil)))))
      (pss_one (ps_ret (pe_call G_unmet hr_unmet (by rfl) T.m_unmet T.k_unmet T.b_unmet .nil pass0 (pa_cons (pe_call G_common hr_common (by rfl) T.m_common T.k_common T.b_common .nil pass0 (pa_cons (pv 0) pa_nil)) (pa_cons (pv 4) pa_nil)))))))), ?_⟩
    have est : L2.start N_sparing [v, .int a] = [some v, some (.int a), none, none, none, none, none, none, none] := rfl
    rw [est]
    clear est
    obtain ⟨va, xs, rfl, hS, hA⟩ := dp_sq hD
    obtain ⟨nv, hny, hnD⟩ := dpa_get hA (i := 1) rfl
    obtain ⟨na, ns, rfl, hnS, hnA⟩ := dp_sq hnD
    have ln := dpa_len hnA
    rw [List.length_map] at ln
    walk_at "un"
    refine ⟨_, rfl, z_ix hS.sq (v := .ref na) (i := 1) (atI_nat hny) ⟨na, ns, rfl, hnS.sq, ?_⟩⟩
    dsimp only [List.set_cons_zero, List.set_cons_succ]
    rw [ln]
    refine z_lcR (B := []) (C := []) (lo := 1) (n := h.needs.length) (fun R r => ⟨_, rfl, _, _, rfl, rfl, _, _, rfl, ?_⟩) (fun i z _ => z = .int (h.needN a (i + 1))) (fun _ _ => True)
      (fun H1 x1 => ⟨lcOk0 (by omega), fun i x hi hx D H' hD' nB e1 _ tD N hN => ?_, fun D zs H' hD' hz lz rz e1 _ => ?_⟩)
    · rw [show ((h.needs.length : Int) + 1 - 1).toNat = h.needs.length by omega]
      exact r H (Ex.refl _ _)
    · subst hx
      refine ⟨rfl, _, rfl, _, rfl, _, rfl, t, h, .ref va, a, i + 1, by rw [show (1 : Int) + (i : Int) = ((i + 1 : Nat) : Int) by omega]; rfl, dp_le (x1.trans e1).le0 _ _ hD, hk, fun H3 x3 => hN _ H3 x3 rfl trivial⟩
    obtain ⟨sums, esums⟩ : ∃ sums : List Int, sums = (List.range h.needs.length).map fun k => h.needN a (k + 1) := ⟨_, rfl⟩
    have lsum : sums.length = h.needs.length := by rw [esums, List.length_map, List.length_range]
    have ez : zs = sums.map V.int := by
      refine List.ext_getElem? fun i => ?_
      by_cases c : i < zs.length
      · rw [List.getElem?_eq_getElem c, rz i _ (List.getElem?_eq_getElem c), List.getElem?_map, esums, List.getElem?_map, List.getElem?_range (by omega)]
        rfl
      · rw [List.getElem?_eq_none (by omega), List.getElem?_eq_none (by rw [List.length_map]; omega)]
    subst ez
    have x1' := x1.trans e1
    clear rz lz
    refine z_lc2 fun Rf hRf => ?_
    refine ⟨_, rfl, t, h, .ref va, rfl, dp_le x1'.le0 _ _ hD, hk, fun l us p H2 hLw hp hpl hU x2 => ?_⟩
    have hUb : DpAll K H2 us (l.map (stD h)) := by have := hU [] (by simp); exact dpa_le (wo_le _ _) _ _ this
    have lus : us.length = l.length := by have := dpa_len hUb; rwa [List.length_map] at this
    have llen := Hill.lows_len hk.L0 hk.nn hk.op hk.dr hk.m0 hLw
    have hL2 : h.L ≤ 20 := hk.y2
    have hz2 := x2.get (by simp) hz
    have x02 := x1'.trans x2
    refine hRf _ _ ⟨p, us, rfl, SqL.of hpl, fun D2 hD2 => ?_⟩
    have y0 := Ex.new (B := []) (o := .lst []) hD2
    refine ⟨fun i G => ∃ zs, G D2 = some (.lst zs) ∧ zs.length = i * h.needs.length ∧ DpAll K (wo [D2] G) zs ((arcsOf h a (l.take i)).map pairD) ∧ Ex [] H2 G, ⟨[], upd_same, by rw [Nat.zero_mul]; rfl, .nil, y0⟩, fun i G ⟨_, _, _, _, x⟩ => SqL.of (x.get (by simp) hpl), fun i x G hx hP Rg hRg => ?_, fun G hP => ?_⟩
    · obtain ⟨zs, z1, z2, z3, xG⟩ := hP
      obtain ⟨d, hd, hDd⟩ := dpa_get' hUb hx
      rw [List.getElem?_map] at hd
      obtain ⟨low, hlow, rfl⟩ := Option.map_eq_some_iff.mp hd
      have li := (List.getElem?_eq_some_iff.mp hlow).1
      obtain ⟨pa, qs, rfl, hSp, hqA⟩ := dp_sq (t := true) (ds := [.int low, .int (low + h.lostZ low - 1)]) (dp_le xG.le0 _ _ hDd)
      cases hqA with | @cons v0 _ _ _ k1 hqA => cases hqA with | @cons v1 _ _ _ k2 hqA =>
      cases hqA
      obtain rfl := dp_int k1
      obtain rfl := dp_int k2
      refine ⟨pa, _, rfl, hSp, rfl, _, _, rfl, _, _, rfl, rfl, ?_⟩
      refine hRg _ G rfl fun Ri hRi => ⟨_, rfl, hRi _ _ ⟨D, sums.map V.int, fun j G => ∃ zs, G D2 = some (.lst zs) ∧ zs.length = i * h.needs.length + j ∧ DpAll K (wo [D2] G) zs ((arcsOf h a (l.take i) ++ (List.range j).map fun k => (low - h.needN a (k + 1), low + h.lostZ low - 1 - h.needN a (k + 1))).map pairD) ∧ Ex [] H2 G, rfl, ⟨zs, z1, z2, by simpa using z3, xG⟩, fun j G ⟨_, _, _, _, x⟩ => SqL.of (x.get (by simp) hz2), fun j y G hy hP => ?_, fun G hP => ?_⟩⟩
      · obtain ⟨zs, z1, z2, z3, xG⟩ := hP
        rw [List.getElem?_map] at hy
        obtain ⟨sm, hsm, rfl⟩ := Option.map_eq_some_iff.mp hy
        have lj := (List.getElem?_eq_some_iff.mp hsm).1
        rw [esums, List.getElem?_map, List.getElem?_range (by omega)] at hsm
        have esm : h.needN a (j + 1) = sm := Option.some.inj hsm
        refine ⟨rfl, ?_⟩
        walk_at "un"
        refine ⟨_, rfl, _, rfl, _, _, rfl, rfl, _, rfl, _, rfl, _, _, rfl, rfl, (by show 2 ≤ sizeLine; decide), fun pt hpt => ?_⟩
        have npt : pt ≠ D2 := fun z => by rw [z, z1] at hpt; cases hpt
        have ya := Ex.new (B := []) (o := .tup [.int (low - sm), .int (low + h.lostZ low - 1 - sm)]) hpt
        have mul := Nat.mul_le_mul (show i ≤ 20 by omega) (show h.needs.length ≤ 20 by omega)
        refine ⟨zs, ya.get (by simp) z1, sz_lt (by omega), ?_⟩
        have yb : Ex [D2] (upd G pt (.tup [.int (low - sm), .int (low + h.lostZ low - 1 - sm)])) (upd (upd G pt (.tup [.int (low - sm), .int (low + h.lostZ low - 1 - sm)])) D2 (.lst (zs ++ [.ref pt]))) := Ex.mut (by simp)
        refine ⟨zs ++ [.ref pt], upd_same, by rw [List.length_append, List.length_singleton]; omega, ?_, (xG.trans ya).mutNew' hD2⟩
        have eR : ∀ (A : List (Int × Int)) (f : Nat → Int × Int), (A ++ (List.range (j + 1)).map f).map pairD = (A ++ (List.range j).map f).map pairD ++ [pairD (f j)] := fun A f => by
          rw [List.range_succ]
          simp only [List.map_append, List.map_cons, List.map_nil, List.append_assoc]
        rw [eR]
        refine dpa_snoc (dpa_le ((Ex.nil ya).trans yb).wo _ _ z3) ?_
        rw [esm]
        exact .tup (xs := [.int (low - sm), .int (low + h.lostZ low - 1 - sm)]) (SqT.of (wo_of (by simpa using npt) (by rw [upd_ne npt, upd_same]))) (dpa_of_ints [low - sm, low + h.lostZ low - 1 - sm])
      · obtain ⟨zs, z1, z2, z3, xG⟩ := hP
        rw [List.length_map, lsum] at z2 z3
        refine ⟨zs, z1, by rw [Nat.add_mul, Nat.one_mul]; exact z2, ?_, xG⟩
        have et : l.take (i + 1) = l.take i ++ [low] := by
          rw [List.take_add_one, hlow]
          rfl
        have ea : arcsOf h a (l.take i ++ [low]) = arcsOf h a (l.take i) ++ (List.range h.needs.length).map fun k => (low - h.needN a (k + 1), low + h.lostZ low - 1 - h.needN a (k + 1)) := by
          unfold arcsOf
          rw [List.flatMap_append]
          simp
        rw [et, ea]
        exact z3
    · obtain ⟨zs, z1, z2, z3, xG⟩ := hP
      rw [lus, List.take_length] at z3
      rw [lus] at z2
      have mul := Nat.mul_le_mul (show l.length ≤ 20 by omega) (show h.needs.length ≤ 20 by omega)
      have x0G := x02.trans xG
      have z3' := dpa_le (wo_le _ _) _ _ z3
      have lz3 := dpa_len z3'
      rw [List.length_map] at lz3
      refine ⟨_, rfl, t, h, .ref va, rfl, dp_le x0G.le0 _ _ hD, hk, fun H5 x5 => ⟨_, rfl, ?_⟩⟩
      refine ⟨gcdI h, arcsOf h a l, D2, zs, rfl, gcd_pos hk, SqL.of (x5.get (by simp) z1), dpa_le x5.le0 _ _ z3', fun p hp => ?_, by omega, fun gl pp ws H6 hG lg hpp hpw hW x6 => ?_⟩
      · obtain ⟨low, hl, k, kn, rfl⟩ := arcs_mem.mp hp
        have := ((hLw.mem low).mp hl).2.2.1
        dsimp only
        omega
      · have x05 := x0G.trans x5
        exact q gl pp ws H6 (hG.congr fun x _ _ => onarc_iff hk hLw x) (by omega) (x05.free hpp) hpw (fun B hB => hW B fun b hb z => hB b hb (x05.free z)) (x05.trans x6)
end
end Z64
set_option Elab.async false
set_option linter.all false
set_option maxRecDepth 100000
set_option maxHeartbeats 4000000
namespace Z64
open PySem PySem.Spec PyProof.Rows L2 Hz
section
variable {P : Program} {w : World} {K : PySem.W.Frag} {mg : Str → Option Value} {base : Heap}
local macro_rules | `(tactic| walk_at "un") => `(tactic| try dsimp only [tSeq, tIfS, tRet, tAsg, tDrop, tOr, tAnd, tNot, tAndV, tOrV, tNotV, tTest, tB, tOp, tUn, tCB, tCons, tNil, tC, tNext, tIf, tChain, gName, tPar, tPar3, tTup, tLst])
def spSpares (K : PySem.W.Frag) : Sp := fun vs H Q _ => ∃ (t : Bool) (h : Hill) (v : V), vs = [v] ∧ Dp K H v (h.dat t) ∧ HillOk h ∧ ∀ l H', Gaps (gcdI h) (Lossy h 0) l → Ex [] H H' → Q (.bl (decide (0 < l.length))) H'
theorem ok_spares (T : Txt K mg) : FnOk P w K mg base CX0 6 T.a_spares T.d_spares P_spares (spSpares K) := by
  have nd := sc_spares.nd
  have G_sparing := ok_sparing (P := P) (w := w) (base := base) T
  refine T.F_spares.ok sc_spares (fun vs H Q E h => ?_) (fun cdv A outer s H vs Q E hr h => ?_)
  · obtain ⟨t, h, v, rfl, _⟩ := h
    rfl
  · obtain ⟨t, h, v, rfl, hD, hk, q⟩ := h
    have hr_sparing := hr
    refine ⟨_, (pss_one (ps_ret (pe_cmpR op_gt (pe_callB (lenK K) (by rfl) T.z_len (by decide +kernel) (pa_cons (pe_call G_sparing hr_sparing (by rfl) T.m_sparing T.k_sparing T.b_sparing .nil pass0 (pa_cons (pv 0) (pa_cons pe_int pa_nil))) pa_nil)) pe_int (nomark _)))), ?_⟩
    walk_at "un"
    refine ⟨_, rfl, t, h, v, 0, rfl, hD, hk, fun l p ws H1 hG ll hp hw hW x1 => ⟨p, ws, rfl, .inl (SqL.of hw), _, _, rfl, rfl, ?_⟩⟩
    have lw := dpa_len (hW [] (by simp))
    rw [List.length_map] at lw
    have e : decide ((ws.length : Int) > 0) = decide (0 < l.length) := by
      rw [lw]
      congr 1
      exact propext (by omega)
    have := q l H1 hG x1
    rw [← e] at this
    exact this
/-- the greatest common divisor, by steps -/
def spDiv : Sp := fun vs H Q _ => ∃ (a b : Nat), vs = [.int a, .int b] ∧ ∀ H', Ex [] H H' → Q (.int (Nat.gcd a b : Nat)) H'
/-- the sums of needs from an ant on -/
def spSums (K : PySem.W.Frag) : Sp := fun vs H Q _ => ∃ (h : Hill) (na : Addr) (a : Nat), vs = [.ref na, .int a] ∧ SqT K H na (h.needs.map V.int) ∧ h.needs.length ≤ 20 ∧ a < h.needs.length ∧
  ∀ p H', H p = none → H' p = some (.lst (((List.range h.needs.length).map fun k => h.needN a (k + 1)).map V.int)) → Ex [] H H' → Q (.ref p) H'
theorem rot_get (h : Hill) {a k : Nat} (ha : a < h.needs.length) (hk : k < h.needs.length) : (h.needs.drop a ++ h.needs.take a)[k]? = some (h.need ((a + k) % h.needs.length)) := by
  have nd : ∀ i, i < h.needs.length → h.needs[i]? = some (h.need i) := fun i hi => by
    have := need_at (h := h) hi
    rw [List.getElem?_map, List.getElem?_eq_getElem hi] at this
    rw [List.getElem?_eq_getElem hi]
    have := Option.some.inj this
    injection this with this
    rw [this]
  by_cases c : a + k < h.needs.length
  · rw [List.getElem?_append_left (by rw [List.length_drop]; omega), List.getElem?_drop, Nat.mod_eq_of_lt c]
    exact nd _ c
  · rw [List.getElem?_append_right (by rw [List.length_drop]; omega), List.length_drop, List.getElem?_take, if_pos (by omega)]
    rw [Nat.mod_eq_sub_mod (by omega), Nat.mod_eq_of_lt (by omega), show k - (h.needs.length - a) = a + k - h.needs.length by omega]
    exact nd _ (by omega)
theorem sum_nn : ∀ (l : List Int), (∀ m, m ∈ l → 0 ≤ m) → 0 ≤ l.sum
  | [], _ => Int.le_refl _
  | x :: l, h => by
    rw [List.sum_cons]
    have := sum_nn l fun m hm => h m (List.mem_cons_of_mem _ hm)
    have := h x (by simp)
    omega
/-- spared for ever -/
def spSpares1 (K : PySem.W.Frag) : Sp := fun vs H Q _ => ∃ (h : Hill) (v : V) (a : Nat) (x : Int), vs = [v, .int a, .int x] ∧ Dp K H v (h.dat true) ∧ HillOk h ∧ a < h.needs.length ∧ h.drops ≤ 1000 ∧
  (Lossy h a x → ∀ H', Ex [] H H' → Q (.bl false) H') ∧ (¬ Lossy h a x → ∀ H', Ex [] H H' → Q (.bl true) H')
end
end Z64
set_option Elab.async false
set_option linter.all false
namespace Hz
namespace Hill
theorem lossT_uniq {h : Hill} {a : Nat} {x : Int} {n m : Nat} (p : h.LossT a x n) (q : h.LossT a x m) : n = m := by
  have pn := p.n1
  have qn := q.n1
  rcases Nat.lt_trichotomy n m with c | c | c
  · have := q.quiet n pn (by omega)
    have := p.lost
    omega
  · exact c
  · have := p.quiet m qn (by omega)
    have := q.lost
    omega
theorem lossT_quiet {h : Hill} {a : Nat} {x : Int} {n : Nat} (p : h.LossT a x n) (q : ∀ k, h.Quiet a x k) : False := by
  have := q n n p.n1 (Nat.le_refl _)
  have := p.lost
  omega
section
variable {h : Hill} (hL : 0 < h.L) (hN : h.Nn) (ho : ∃ d, d ∈ h.year ∧ d.2 = true) (hd : 0 < h.drops)
include hL hN ho hd
/-- lines that come round without a loss lose nothing for ever -/
theorem quiet_round {a : Nat} {x : Int} {i j : Nat} (l : i < j) (q : h.Quiet a x j) (e : (a + i) % h.needs.length = (a + j) % h.needs.length) {z : Int} (ez : x + h.needN a j = x + h.needN a i + z * h.drops) : ∀ k, h.Quiet a x k := by
  have all : ∀ k, 1 ≤ k → h.lostZ (x + h.needN a k) = 0 := fun k => by
    induction k using Nat.strongRecOn with
    | _ k ih =>
      intro k1
      by_cases c : k ≤ j
      · exact q k k1 c
      · have h1 := needN_add h a j (k - j)
        have h2 := needN_add h a i (k - j)
        rw [show j + (k - j) = k by omega, ← e] at h1
        have e3 : x + h.needN a k = x + h.needN a (i + (k - j)) + z * h.drops := by omega
        rw [e3, lostZ_year hL hN ho hd]
        exact ih (i + (k - j)) (by omega) (by omega)
  exact fun k m m1 _ => all m m1
variable (hn : ∀ m ∈ h.needs, 0 ≤ m) (hm0 : 0 ≤ h.most)
include hn hm0
/-- where a row stands -/
theorem st_led {l : List (Now × Int)} {s : Now} (a : h.At s) (R : h.Rows s l) : ∀ i, i ≤ l.length → h.lineZ (lastOf s (l.take i)) = h.ledN s.ant (h.lineZ s) i ∧ (lastOf s (l.take i)).ant = (s.ant + i) % h.needs.length
  | 0, _ => by rw [List.take_zero]; exact ⟨rfl, (Nat.mod_eq_of_lt a.an).symm⟩
  | i + 1, hi => by
    obtain ⟨r, hr⟩ : ∃ r, l[i]? = some r := ⟨_, List.getElem?_eq_getElem (by omega)⟩
    obtain ⟨e1, _, e3⟩ := rows_led hL hN ho hd hm0 hn a R hr
    rw [last_take hr]
    exact ⟨e1, e3⟩
/-- a row that loses nothing -/
theorem rows_quiet {l : List (Now × Int)} {s : Now} (a : h.At s) (R : h.Rows s l) (z : ∀ r ∈ l, r.2 = 0) : h.Quiet s.ant (h.lineZ s) l.length := by
  have all : ∀ k, k ≤ l.length → h.Quiet s.ant (h.lineZ s) k := fun k => by
    induction k with
    | zero => intro _ j h1 h2; omega
    | succ k ih =>
      intro hk j h1 h2
      have i := ih (by omega)
      by_cases c : j ≤ k
      · exact i j h1 c
      · obtain rfl : j = k + 1 := by omega
        obtain ⟨r, hr⟩ : ∃ r, l[k]? = some r := ⟨_, List.getElem?_eq_getElem (by omega)⟩
        obtain ⟨_, e2, _⟩ := rows_led hL hN ho hd hm0 hn a R hr
        rw [z r (List.mem_of_getElem? hr), ledN_quiet i] at e2
        have : h.lineZ s + h.needN s.ant (k + 1) = h.lineZ s + h.needN s.ant k + h.need ((s.ant + k) % h.needs.length) := by
          show _ + (h.needN s.ant k + h.need ((s.ant + k) % _)) = _
          omega
        rw [this]
        exact e2.symm
  exact all _ (Nat.le_refl _)
end
/-- where a STATE is, around the year -/
def keyN (h : Hill) (s : Now) : Nat × Int := (s.ant, h.lineZ s % h.drops)
/-- no more unlike places than these -/
theorem keys_len {h : Hill} (hd : 0 < h.drops) {ks : List (Nat × Int)} (nd : ks.Nodup) (b : ∀ k ∈ ks, k.1 < h.needs.length ∧ 0 ≤ k.2 ∧ k.2 < h.drops) : ks.length ≤ h.needs.length * h.drops.toNat := by
  have := nodup_le nd (m := (List.range h.needs.length).flatMap fun a => (List.range h.drops.toNat).map fun d : Nat => (a, (d : Int))) fun k hk => by
    obtain ⟨b1, b2, b3⟩ := b k hk
    refine List.mem_flatMap.mpr ⟨k.1, List.mem_range.mpr b1, List.mem_map.mpr ⟨k.2.toNat, List.mem_range.mpr (by omega), ?_⟩⟩
    rw [Int.toNat_of_nonneg b2]
  rwa [flat_len (m := h.drops.toNat) _ (fun g => by simp)] at this
theorem mod_eq_ex {d y z : Int} (e : y % d = z % d) : ∃ k : Int, y = z + k * d := by
  refine ⟨y / d - z / d, ?_⟩
  have a := Int.emod_add_mul_ediv y d
  have b := Int.emod_add_mul_ediv z d
  rw [Int.sub_mul, Int.mul_comm (y / _), Int.mul_comm (z / _)]
  omega
end Hill
end Hz
set_option Elab.async false
set_option linter.all false
set_option maxRecDepth 100000
set_option maxHeartbeats 4000000
namespace Z64
open PySem PySem.Spec PyProof.Rows L2 Hz
theorem bez (a b : Nat) : ∃ u v : Int, ((Nat.gcd a b : Nat) : Int) = u * a + v * b := by
  induction a, b using Nat.gcd.induction with
  | H0 n => exact ⟨0, 1, by rw [Nat.gcd_zero_left]; omega⟩
  | H1 m n hm ih =>
    obtain ⟨u, v, e⟩ := ih
    refine ⟨v - u * ((n / m : Nat) : Int), u, ?_⟩
    rw [Nat.gcd_rec, e]
    have em : ((n % m : Nat) : Int) = n - m * ((n / m : Nat) : Int) := by
      have := Nat.mod_add_div n m
      have : ((n % m : Nat) : Int) + (m : Int) * ((n / m : Nat) : Int) = n := by rw [← Int.natCast_mul, ← Int.natCast_add, this]
      omega
    rw [em, Int.mul_sub, Int.sub_mul, Int.mul_assoc, Int.mul_comm ((n / m : Nat) : Int)]
    omega
theorem ring_pos {h : Hill} (hk : HillOk h) : 0 ≤ h.needs.sum := by
  have : ∀ l : List Int, (∀ m, m ∈ l → 0 ≤ m) → 0 ≤ l.sum := fun l => by
    induction l with
    | nil => intro _; exact Int.le_refl _
    | cons x l ih =>
      intro hh
      rw [List.sum_cons]
      have := ih fun m hm => hh m (List.mem_cons_of_mem _ hm)
      have := hh x (by simp)
      omega
  exact this _ fun m hm => by have := hk.n0 m hm; omega
theorem gcd_ring {h : Hill} (hk : HillOk h) : ∃ r : Int, h.needs.sum = gcdI h * r := by
  have := ring_pos hk
  obtain ⟨d, e⟩ := Nat.gcd_dvd_right h.drops.natAbs h.needs.sum.natAbs
  refine ⟨d, ?_⟩
  unfold gcdI
  rw [← Int.natCast_mul, ← e]
  omega
/-- a ring's rounds meet each class's numbers within the years -/
theorem ring_meets {h : Hill} (hk : HillOk h) (j : Int) : ∃ (m : Nat) (q : Int), (m : Int) * h.needs.sum = j * gcdI h + q * h.drops := by
  have hd := hk.dr
  have hr := ring_pos hk
  obtain ⟨u, v, e⟩ := bez h.drops.natAbs h.needs.sum.natAbs
  have e1 : gcdI h = u * h.drops + v * h.needs.sum := by
    unfold gcdI
    rw [e]
    have : ((h.drops.natAbs : Nat) : Int) = h.drops := by omega
    have : ((h.needs.sum.natAbs : Nat) : Int) = h.needs.sum := by omega
    rw [‹((h.drops.natAbs : Nat) : Int) = h.drops›, ‹((h.needs.sum.natAbs : Nat) : Int) = h.needs.sum›]
  have z0 := Int.emod_nonneg (j * v) (show h.drops ≠ 0 by omega)
  have em := Int.mul_ediv_add_emod (j * v) h.drops
  refine ⟨((j * v) % h.drops).toNat, -(j * u) - h.needs.sum * ((j * v) / h.drops), ?_⟩
  rw [Int.toNat_of_nonneg z0]
  have e2 : (j * v) % h.drops = j * v - h.drops * ((j * v) / h.drops) := by omega
  rw [e2, e1]
  generalize (j * v) / h.drops = Z
  generalize h.needs.sum = R
  generalize h.drops = D
  rw [Int.sub_mul, Int.mul_add, Int.sub_mul, Int.neg_mul]
  have a1 : j * v * R = j * (v * R) := Int.mul_assoc _ _ _
  have a2 : j * u * D = j * (u * D) := Int.mul_assoc _ _ _
  have a3 : D * Z * R = R * Z * D := by rw [Int.mul_comm D Z, Int.mul_comm R Z, Int.mul_assoc, Int.mul_assoc, Int.mul_comm D R]
  omega
section
variable {h : Hill} (hk : HillOk h)
include hk
theorem lossy_move {a : Nat} {x : Int} (t : Int) : Lossy h a (x + t * gcdI h) ↔ Lossy h a x := by
  constructor
  · rintro ⟨k, kn, j, pos⟩
    refine ⟨k, kn, t + j, ?_⟩
    rw [Int.add_mul]
    have : x + h.needN a (k + 1) + (t * gcdI h + j * gcdI h) = x + t * gcdI h + h.needN a (k + 1) + j * gcdI h := by omega
    rw [this]
    exact pos
  · rintro ⟨k, kn, j, pos⟩
    refine ⟨k, kn, j - t, ?_⟩
    rw [Int.sub_mul]
    have : x + t * gcdI h + h.needN a (k + 1) + (j * gcdI h - t * gcdI h) = x + h.needN a (k + 1) + j * gcdI h := by omega
    rw [this]
    exact pos
theorem quiet_iff {a : Nat} {x : Int} : (∀ k, h.Quiet a x k) ↔ ¬ Lossy h a x := by
  have n0 : 0 < h.needs.length := hk.n1
  constructor
  · rintro qu ⟨k, kn, j, pos⟩
    obtain ⟨m, q, e⟩ := ring_meets hk j
    have := qu (m * h.needs.length + (k + 1)) (m * h.needs.length + (k + 1)) (by omega) (Nat.le_refl _)
    rw [Hill.needN_rounds h n0, show x + ((m : Int) * h.needs.sum + h.needN a (k + 1)) = x + h.needN a (k + 1) + j * gcdI h + q * h.drops by omega, Hill.lostZ_year hk.L0 hk.nn hk.op hk.dr] at this
    omega
  · intro nl k j j1 jk
    have nn := Hill.lostZ_nn hk.L0 hk.nn hk.op hk.dr (x + h.needN a j)
    refine Classical.byContradiction fun z => nl ?_
    obtain ⟨r, er⟩ := gcd_ring hk
    have md := Nat.mod_add_div (j - 1) h.needs.length
    have ej : j = ((j - 1) / h.needs.length) * h.needs.length + ((j - 1) % h.needs.length + 1) := by
      rw [Nat.mul_comm]
      omega
    refine ⟨(j - 1) % h.needs.length, Nat.mod_lt _ n0, (((j - 1) / h.needs.length : Nat) : Int) * r, ?_⟩
    have e := Hill.needN_rounds h n0 a ((j - 1) / h.needs.length) ((j - 1) % h.needs.length + 1)
    rw [← ej] at e
    have e2 : (((j - 1) / h.needs.length : Nat) : Int) * r * gcdI h = (((j - 1) / h.needs.length : Nat) : Int) * h.needs.sum := by rw [er, Int.mul_assoc, Int.mul_comm r]
    rw [e2, show x + h.needN a ((j - 1) % h.needs.length + 1) + (((j - 1) / h.needs.length : Nat) : Int) * h.needs.sum = x + h.needN a j by omega]
    omega
theorem need_shift (a k : Nat) (ha : a < h.needs.length) : h.needN a (k + 1) = h.need a + h.needN ((a + 1) % h.needs.length) k := by
  have := Hill.needN_add h a 1 k
  rw [Nat.add_comm 1 k] at this
  rw [this]
  show 0 + h.need ((a + 0) % _) + _ = _
  rw [Nat.add_zero, Nat.mod_eq_of_lt ha]
  omega
/-- at the next ant: moved on by the need -/
theorem lossy_next {a : Nat} (ha : a < h.needs.length) (z : Int) : Lossy h ((a + 1) % h.needs.length) (z + h.need a) ↔ Lossy h a z := by
  have n0 : 0 < h.needs.length := hk.n1
  obtain ⟨r, er⟩ := gcd_ring hk
  have rg := Hill.needN_ring h n0 ((a + 1) % h.needs.length)
  constructor
  · rintro ⟨k, kn, j, pos⟩
    by_cases c : k + 1 < h.needs.length
    · refine ⟨k + 1, c, j, ?_⟩
      rw [need_shift hk a (k + 1) ha, show z + (h.need a + h.needN ((a + 1) % h.needs.length) (k + 1)) = z + h.need a + h.needN ((a + 1) % h.needs.length) (k + 1) by omega]
      exact pos
    · have ek : k + 1 = h.needs.length := by omega
      rw [ek, rg, er] at pos
      refine ⟨0, n0, r + j, ?_⟩
      rw [need_shift hk a 0 ha, Int.add_mul, Int.mul_comm r]
      show 0 < h.lostZ (z + (h.need a + 0) + (gcdI h * r + j * gcdI h))
      rw [show z + (h.need a + 0) + (gcdI h * r + j * gcdI h) = z + h.need a + gcdI h * r + j * gcdI h by omega]
      exact pos
  · rintro ⟨k, kn, j, pos⟩
    rw [need_shift hk a k ha] at pos
    cases k with
    | zero =>
      refine ⟨h.needs.length - 1, by omega, j - r, ?_⟩
      rw [show h.needs.length - 1 + 1 = h.needs.length by omega, rg, er, Int.sub_mul, Int.mul_comm r]
      have p2 : 0 < h.lostZ (z + (h.need a + 0) + j * gcdI h) := pos
      rw [show z + h.need a + gcdI h * r + (j * gcdI h - gcdI h * r) = z + (h.need a + 0) + j * gcdI h by omega]
      exact p2
    | succ k =>
      refine ⟨k, by omega, j, ?_⟩
      rw [show z + h.need a + h.needN ((a + 1) % h.needs.length) (k + 1) = z + (h.need a + h.needN ((a + 1) % h.needs.length) (k + 1)) by omega]
      exact pos
/-- so far to the next spared class -/
structure Dist (h : Hill) (a : Nat) (x d : Int) : Prop where
  nn : 0 ≤ d
  sp : ¬ Lossy h a (x + d)
  no : ∀ e, 0 ≤ e → e < d → Lossy h a (x + e)
omit hk in
theorem Dist.uniq {a : Nat} {x d d' : Int} (p : Dist h a x d) (q : Dist h a x d') : d = d' := by
  have := p.nn
  have := q.nn
  rcases Int.lt_trichotomy d d' with c | c | c
  · exact (p.sp (q.no d p.nn c)).elim
  · exact c
  · exact (q.sp (p.no d' q.nn c)).elim
theorem lost_on {y e : Int} (e0 : 0 ≤ e) (e1 : e < h.lostZ y) : 0 < h.lostZ (y + e) := by
  have := Hill.lost_mono hk.L0 hk.nn (Hill.lostZ_spec hk.L0 hk.nn hk.op hk.dr y) (Hill.lostZ_spec hk.L0 hk.nn hk.op hk.dr (y + e)) (by omega)
  omega
theorem lossy_here {a : Nat} (ha : a < h.needs.length) {z : Int} (p : 0 < h.lostZ (z + h.need a)) : Lossy h a z := by
  refine ⟨0, Nat.lt_of_lt_of_le Nat.zero_lt_one hk.n1, 0, ?_⟩
  rw [need_shift hk a 0 ha, Int.zero_mul, Int.add_zero]
  show 0 < h.lostZ (z + (h.need a + 0))
  rw [Int.add_zero]
  exact p
/-- a turn goes on upon the way to the next spared class -/
theorem Dist.turn {a : Nat} (ha : a < h.needs.length) {x d : Int} (p : Dist h a x d) : h.lostZ (x + h.need a) ≤ d ∧ Dist h ((a + 1) % h.needs.length) (x + h.need a + h.lostZ (x + h.need a)) (d - h.lostZ (x + h.need a)) := by
  have nn := Hill.lostZ_nn hk.L0 hk.nn hk.op hk.dr (x + h.need a)
  have le : h.lostZ (x + h.need a) ≤ d := Int.not_lt.mp fun z => p.sp (lossy_here hk ha (by
    have := lost_on hk (y := x + h.need a) p.nn z
    rwa [show x + h.need a + d = x + d + h.need a by omega] at this))
  refine ⟨le, by omega, fun z => p.sp ?_, fun e e0 e1 => ?_⟩
  · rw [show x + h.need a + h.lostZ (x + h.need a) + (d - h.lostZ (x + h.need a)) = x + d + h.need a by omega] at z
    exact (lossy_next hk ha _).mp z
  · rw [show x + h.need a + h.lostZ (x + h.need a) + e = x + (h.lostZ (x + h.need a) + e) + h.need a by omega]
    exact (lossy_next hk ha _).mpr (p.no _ (by omega) (by omega))
theorem all_next {a : Nat} (ha : a < h.needs.length) (p : ∀ y, Lossy h a y) : ∀ y, Lossy h ((a + 1) % h.needs.length) y := fun y => by
  have := (lossy_next hk ha (y - h.need a)).mpr (p _)
  rwa [show y - h.need a + h.need a = y by omega] at this
/-- one spared class: a way to it, shorter than round -/
theorem dist_ex {a : Nat} (x : Int) : (∀ y, Lossy h a y) ∨ ∃ d, Dist h a x d ∧ d < gcdI h := by
  have g0 := gcd_pos hk
  by_cases c : ∀ y, Lossy h a y
  · exact .inl c
  · refine .inr ?_
    obtain ⟨y, hy⟩ := Classical.not_forall.mp c
    have e0 := Int.emod_nonneg (y - x) (show gcdI h ≠ 0 by omega)
    have e1 := Int.emod_lt_of_pos (y - x) g0
    have em := Int.mul_ediv_add_emod (y - x) (gcdI h)
    have key : ∀ n : Nat, (∀ e : Int, 0 ≤ e → e < n → Lossy h a (x + e)) ∨ ∃ d, Dist h a x d ∧ d < n := fun n => by
      induction n with
      | zero => exact .inl fun e a b => by omega
      | succ n ih =>
        rcases ih with ih | ⟨d, p, l⟩
        · by_cases c2 : Lossy h a (x + (n : Int))
          · refine .inl fun e e0 e1 => ?_
            by_cases z : e < n
            · exact ih e e0 z
            · have : e = n := by omega
              rw [this]; exact c2
          · exact .inr ⟨n, ⟨by omega, c2, fun e e0 e1 => ih e e0 e1⟩, by omega⟩
        · exact .inr ⟨d, p, by omega⟩
    rcases key (gcdI h).toNat with k | ⟨d, p, l⟩
    · have := k _ e0 (by omega)
      rw [← lossy_move hk ((y - x) / gcdI h)] at this
      rw [show x + (y - x) % gcdI h + (y - x) / gcdI h * gcdI h = y by rw [Int.mul_comm ((y - x) / gcdI h)]; omega] at this
      exact (hy this).elim
    · exact ⟨d, p, by omega⟩
end
end Z64
set_option Elab.async false
set_option linter.all false
namespace Hz
namespace Hill
theorem ledN_mod (h : Hill) (a : Nat) (x : Int) (n : Nat) : h.ledN (a % h.needs.length) x n = h.ledN a x n := by
  have := ledN_add h a x 0 n
  rw [Nat.zero_add, Nat.add_zero] at this
  exact this.symm
/-- so many rounds lead the line by so many years -/
def Rnd (h : Hill) (a : Nat) (x : Int) (p : Nat) (q : Int) : Prop := h.ledN a x (p * h.needs.length) = x + q * h.drops
theorem led_ring (h : Hill) (a : Nat) (x : Int) (p n : Nat) : h.ledN a x (p * h.needs.length + n) = h.ledN a (h.ledN a x (p * h.needs.length)) n := by
  rw [ledN_add, Nat.add_mul_mod_self_right, ledN_mod]
section
variable {h : Hill} (hL : 0 < h.L) (hN : h.Nn) (ho : ∃ d, d ∈ h.year ∧ d.2 = true) (hd : 0 < h.drops)
include hL hN ho hd
theorem Rnd.on {a : Nat} {x : Int} {p : Nat} {q : Int} (r : h.Rnd a x p q) (m : Nat) : h.Rnd (a + m) (h.ledN a x m) p q := by
  unfold Rnd at r ⊢
  have e1 := ledN_add h a x m (p * h.needs.length)
  rw [ledN_mod] at e1
  rw [← e1, Nat.add_comm m, led_ring, r, ledN_year hL hN ho hd]
theorem Rnd.times {a : Nat} {x : Int} {p : Nat} {q : Int} (r : h.Rnd a x p q) : ∀ j : Nat, h.Rnd a x (j * p) (j * q)
  | 0 => by
    unfold Rnd
    rw [Nat.zero_mul, Nat.zero_mul]
    show x = x + 0 * q * h.drops
    rw [Int.zero_mul, Int.zero_mul, Int.add_zero]
  | j + 1 => by
    have i := Rnd.times r j
    unfold Rnd at r i ⊢
    rw [show (j + 1) * p * h.needs.length = p * h.needs.length + j * p * h.needs.length by rw [Nat.add_mul, Nat.one_mul, Nat.add_mul, Nat.add_comm], led_ring, r, ledN_year hL hN ho hd, i]
    rw [Int.natCast_add, Int.add_mul, Int.add_mul]
    show x + (j : Int) * q * h.drops + q * h.drops = x + ((j : Int) * q * h.drops + 1 * q * h.drops)
    rw [Int.one_mul]
    omega
/-- many times one number stays below many times another, but for so much: it is no greater -/
theorem no_greater {s t c D : Int} (hD : 0 < D) (k : ∀ j : Nat, (j : Int) * s * D ≤ (j : Int) * t * D + c * D) : s ≤ t := by
  refine Int.not_lt.mp fun z => ?_
  have := k (c.toNat + 1)
  rw [← Int.add_mul] at this
  have := Int.le_of_mul_le_mul_right this hD
  have c1 : c ≤ (c.toNat : Int) := Int.self_le_toNat c
  rw [Int.natCast_add] at this
  have e : ((c.toNat : Int) + (1 : Nat)) * (t + 1) ≤ ((c.toNat : Int) + (1 : Nat)) * s := Int.mul_le_mul_of_nonneg_left (by omega) (by omega)
  rw [Int.mul_add, Int.mul_one] at e
  omega
theorem led_le {a : Nat} {x x' : Int} (k : Int) (l : x ≤ x' + k * h.drops) (n : Nat) : h.ledN a x n ≤ h.ledN a x' n + k * h.drops := by
  rw [← ledN_year hL hN ho hd]
  exact ledN_mono hL hN ho hd a l n
theorem some_years (x x' : Int) : ∃ k : Int, x ≤ x' + k * h.drops := by
  refine ⟨(x - x') / h.drops + 1, ?_⟩
  have := Int.mul_ediv_add_emod (x - x') h.drops
  have := Int.emod_lt_of_pos (x - x') hd
  rw [Int.add_mul, Int.one_mul, Int.mul_comm ((x - x') / h.drops)]
  omega
theorem rate_le {a : Nat} {x x' : Int} {p p' : Nat} {q q' : Int} (r : h.Rnd a x p q) (r' : h.Rnd a x' p' q') : (p' : Int) * q ≤ (p : Int) * q' := by
  obtain ⟨k, hk⟩ := some_years hL hN ho hd x x'
  obtain ⟨k', hk'⟩ := some_years hL hN ho hd x' x
  refine no_greater hL hN ho hd (c := k + k') hd fun j => ?_
  have e1 := Rnd.times hL hN ho hd r (j * p')
  have e2 := Rnd.times hL hN ho hd r' (j * p)
  unfold Rnd at e1 e2
  rw [show j * p' * p = j * p * p' by rw [Nat.mul_assoc, Nat.mul_assoc, Nat.mul_comm p']] at e1
  have l := led_le hL hN ho hd k hk (a := a) (j * p * p' * h.needs.length)
  rw [e1, e2] at l
  rw [Int.add_mul, ← Int.mul_assoc, ← Int.mul_assoc, ← Int.natCast_mul, ← Int.natCast_mul]
  omega
/-- all rounds lead at one rate -/
theorem rate (n0 : 0 < h.needs.length) {a a' : Nat} {x x' : Int} {p p' : Nat} {q q' : Int} (ha : a < h.needs.length) (ha' : a' < h.needs.length) (r : h.Rnd a x p q) (r' : h.Rnd a' x' p' q') : (p' : Int) * q = (p : Int) * q' := by
  obtain ⟨x2, r2⟩ : ∃ x2, h.Rnd a x2 p' q' := by
    refine ⟨h.ledN a' x' (h.needs.length - a' + a), ?_⟩
    have := Rnd.on hL hN ho hd r' (h.needs.length - a' + a)
    rw [show a' + (h.needs.length - a' + a) = a + h.needs.length by omega] at this
    unfold Rnd at this ⊢
    rw [← ledN_mod, Nat.add_mod_right, ledN_mod] at this
    exact this
  have l1 := rate_le hL hN ho hd r r2
  have l2 := rate_le hL hN ho hd r2 r
  omega
/-- a part of a round leads as far as its part of the years -/
theorem part {a : Nat} {x : Int} {g p : Nat} {q : Int} (g0 : 0 < g) (r : h.Rnd a x (g * p) (g * q)) : h.Rnd a x p q := by
  have up : ∀ {y : Int}, x + q * h.drops < h.ledN a x (p * h.needs.length) → ∀ j : Nat, x + ((j + 1 : Nat) : Int) * q * h.drops < h.ledN a x ((j + 1) * p * h.needs.length) := fun {_} c j => by
    induction j with
    | zero =>
      show x + 1 * q * h.drops < h.ledN a x ((0 + 1) * p * h.needs.length)
      rw [Int.one_mul, Nat.zero_add, Nat.one_mul]
      exact c
    | succ j i =>
      have e : (j + 1 + 1) * p * h.needs.length = p * h.needs.length + (j + 1) * p * h.needs.length := by rw [Nat.add_mul (j + 1), Nat.one_mul, Nat.add_mul, Nat.add_comm]
      rw [e, led_ring]
      have m := ledN_mono hL hN ho hd a (Int.le_of_lt c) ((j + 1) * p * h.needs.length)
      rw [ledN_year hL hN ho hd] at m
      have : ((j + 1 + 1 : Nat) : Int) * q * h.drops = ((j + 1 : Nat) : Int) * q * h.drops + q * h.drops := by
        rw [Int.natCast_add (j + 1), Int.add_mul, Int.add_mul]
        show _ + 1 * q * h.drops = _
        rw [Int.one_mul]
      omega
  have down : h.ledN a x (p * h.needs.length) < x + q * h.drops → ∀ j : Nat, h.ledN a x ((j + 1) * p * h.needs.length) < x + ((j + 1 : Nat) : Int) * q * h.drops := fun c j => by
    induction j with
    | zero =>
      show h.ledN a x ((0 + 1) * p * h.needs.length) < x + 1 * q * h.drops
      rw [Int.one_mul, Nat.zero_add, Nat.one_mul]
      exact c
    | succ j i =>
      have e : (j + 1 + 1) * p * h.needs.length = p * h.needs.length + (j + 1) * p * h.needs.length := by rw [Nat.add_mul (j + 1), Nat.one_mul, Nat.add_mul, Nat.add_comm]
      rw [e, led_ring]
      have m := ledN_mono hL hN ho hd a (Int.le_of_lt c) ((j + 1) * p * h.needs.length)
      rw [ledN_year hL hN ho hd] at m
      have : ((j + 1 + 1 : Nat) : Int) * q * h.drops = ((j + 1 : Nat) : Int) * q * h.drops + q * h.drops := by
        rw [Int.natCast_add (j + 1), Int.add_mul, Int.add_mul]
        show _ + 1 * q * h.drops = _
        rw [Int.one_mul]
      omega
  unfold Rnd at r ⊢
  obtain ⟨k, rfl⟩ : ∃ k, g = k + 1 := ⟨g - 1, by omega⟩
  rcases Int.lt_trichotomy (h.ledN a x (p * h.needs.length)) (x + q * h.drops) with c | c | c
  · have := down c k
    omega
  · exact c
  · have := up (y := x) c k
    omega
end
end Hill
end Hz
set_option Elab.async false
set_option linter.all false
namespace Hz
namespace Hill
/-- what the turn behind so many loses -/
noncomputable def lossAt (h : Hill) (a : Nat) (x : Int) (n : Nat) : Int := h.lostZ (h.ledN a x n + h.need ((a + n) % h.needs.length))
theorem led_succ (h : Hill) (a : Nat) (x : Int) (n : Nat) : h.ledN a x (n + 1) = h.ledN a x n + h.need ((a + n) % h.needs.length) + h.lossAt a x n := rfl
section
variable {h : Hill} {a : Nat} {x : Int} {ms : List Mk} {ag : Option Nat} (ha : a < h.needs.length)
include ha
/-- each loss ahead of a mark has its mark -/
theorem Way.marks (W : h.Way a x ms ag) : ∀ {i : Nat} {m : Mk} {n : Nat}, ms[i]? = some m → n < m.t → 0 < h.lossAt a x n → ∃ i' m', i' ≤ i ∧ ms[i']? = some m' ∧ m'.t = n + 1
  | 0, m, n, e, l, _ => by
    rw [W.fst] at e
    cases e
    cases l
  | i + 1, m', n, e, l, p => by
    obtain ⟨m, em⟩ : ∃ m, ms[i]? = some m := by
      obtain ⟨l, _⟩ := List.getElem?_eq_some_iff.mp e
      exact ⟨_, List.getElem?_eq_getElem (by omega)⟩
    by_cases c : n < m.t
    · obtain ⟨i', m1, h1, h2, h3⟩ := Way.marks W em c p
      exact ⟨i', m1, by omega, h2, h3⟩
    · obtain ⟨a1, a2, _⟩ := W.at_ ha em
      obtain ⟨N, L, em'⟩ := W.nx em e
      have t' : m'.t = m.t + N := by rw [em']
      by_cases c2 : n + 1 = m'.t
      · exact ⟨i + 1, m', Nat.le_refl _, e, c2.symm⟩
      · exfalso
        obtain ⟨k, rfl⟩ : ∃ k, n = m.t + k := ⟨n - m.t, by omega⟩
        have q : h.Quiet m.a m.y k := fun j j1 j2 => L.quiet j j1 (by omega)
        have z := L.quiet (k + 1) (by omega) (by omega)
        unfold lossAt at p
        rw [ledN_add, ← a1, ← a2, ledN_quiet q] at p
        have e2 : m.y + h.needN m.a k + h.need ((a + (m.t + k)) % h.needs.length) = m.y + h.needN m.a (k + 1) := by
          show _ = m.y + (h.needN m.a k + h.need ((m.a + k) % _))
          rw [a1, Nat.mod_add_mod, Nat.add_assoc]
          omega
        rw [e2, z] at p
        omega
variable (hL : 0 < h.L) (hN : h.Nn) (ho : ∃ d, d ∈ h.year ∧ d.2 = true) (hd : 0 < h.drops)
include hL hN ho hd
/-- a place that comes again behind a round loses what it lost -/
theorem loss_round (n0 : 0 < h.needs.length) {p : Nat} {q : Int} (r : h.Rnd a x p q) (n : Nat) : h.lossAt a x (p * h.needs.length + n) = h.lossAt a x n := by
  unfold lossAt
  unfold Rnd at r
  rw [led_ring, r, ledN_year hL hN ho hd, show a + (p * h.needs.length + n) = a + n + p * h.needs.length by omega, Nat.add_mul_mod_self_right, show h.ledN a x n + q * h.drops + h.need ((a + n) % h.needs.length) = h.ledN a x n + h.need ((a + n) % h.needs.length) + q * h.drops by omega, lostZ_year hL hN ho hd]
theorem loss_rounds (n0 : 0 < h.needs.length) {p : Nat} {q : Int} (r : h.Rnd a x p q) (n : Nat) (j : Nat) : h.lossAt a x (j * (p * h.needs.length) + n) = h.lossAt a x n := by
  have := loss_round ha hL hN ho hd n0 (Rnd.times hL hN ho hd r j) n
  rwa [Nat.mul_assoc] at this
/-- the round of a way, in lowest terms -/
theorem Way.lowest (n0 : 0 < h.needs.length) (bd : ∀ a x n, x ≤ h.ledN a x n) {j : Nat} (W : h.Way a x ms (some j)) (nod : ((ms.take (ms.length - 1)).map h.key).Nodup) {mj ml : Mk} (e1 : ms[j]? = some mj) (e2 : ms[ms.length - 1]? = some ml) :
    ∃ p q : Nat, ml.t - mj.t = p * h.needs.length ∧ mj.t ≤ ml.t ∧ ml.y - mj.y = (q : Int) * h.drops ∧ 1 ≤ p ∧ Nat.gcd p q = 1 ∧ mj.a < h.needs.length ∧ h.Rnd mj.a mj.y p q := by
  obtain ⟨lt, mj', ml', e1', e2', ea, k, ey⟩ := W.rep rfl
  rw [e1] at e1'
  rw [e2] at e2'
  cases e1'
  cases e2'
  obtain ⟨a1, a2, _⟩ := W.at_ ha e1
  obtain ⟨b1, b2, _⟩ := W.at_ ha e2
  have tl := W.lt ha e1 e2 (by omega)
  have al : mj.a < h.needs.length := by rw [a1]; exact Nat.mod_lt _ n0
  obtain ⟨d, ed⟩ : ∃ d, ml.t = mj.t + d := ⟨ml.t - mj.t, by omega⟩
  have m0 : d % h.needs.length = 0 := by
    rw [b1, a1, ed, ← Nat.add_assoc] at ea
    have h2 := Nat.add_mod (a + mj.t) d h.needs.length
    rw [ea] at h2
    have h1 := Nat.mod_lt (a + mj.t) n0
    have h3 := Nat.mod_lt d n0
    generalize (a + mj.t) % h.needs.length = u at h1 h2
    generalize d % h.needs.length = w at h2 h3
    by_cases c : u + w < h.needs.length
    · rw [Nat.mod_eq_of_lt c] at h2
      omega
    · rw [Nat.mod_eq_sub_mod (by omega), Nat.mod_eq_of_lt (by omega)] at h2
      omega
  obtain ⟨p, ep⟩ : ∃ p, d = p * h.needs.length := ⟨d / h.needs.length, by have := Nat.mod_add_div d h.needs.length; rw [Nat.mul_comm]; omega⟩
  have led : h.ledN mj.a mj.y d = ml.y := by rw [b2, ed, ledN_add, ← a2, ← a1]
  have k0 : 0 ≤ k := by
    have := bd mj.a mj.y d
    rw [led, ey] at this
    refine Int.not_lt.mp fun z => ?_
    have : k * h.drops ≤ (-1) * h.drops := Int.mul_le_mul_of_nonneg_right (by omega) (by omega)
    omega
  obtain ⟨q, rfl⟩ := Int.eq_ofNat_of_zero_le k0
  have p1 : 1 ≤ p := by
    refine Nat.pos_of_ne_zero fun z => ?_
    rw [z, Nat.zero_mul] at ep
    omega
  have r : h.Rnd mj.a mj.y p q := by
    unfold Rnd
    rw [← ep, led, ey]
  refine ⟨p, q, by omega, by omega, by omega, p1, ?_, al, r⟩
  have g0 : 0 < Nat.gcd p q := Nat.gcd_pos_of_pos_left _ p1
  refine Classical.byContradiction fun g1 => ?_
  obtain ⟨p', ep'⟩ := Nat.gcd_dvd_left p q
  obtain ⟨q', eq'⟩ := Nat.gcd_dvd_right p q
  generalize Nat.gcd p q = g at g0 g1 ep' eq'
  have r' : h.Rnd mj.a mj.y p' q' := part hL hN ho hd (g := g) g0 (by rw [← ep', ← Int.natCast_mul, ← eq']; exact r)
  have p0 : 1 ≤ p' := by
    refine Nat.pos_of_ne_zero fun z => ?_
    rw [z, Nat.mul_zero] at ep'
    omega
  have pl : 1 ≤ p' * h.needs.length := Nat.mul_pos p0 n0
  obtain ⟨f, rfl⟩ : ∃ f, g = f + 2 := ⟨g - 2, by omega⟩
  have ed2 : d = (f + 1) * (p' * h.needs.length) + p' * h.needs.length := by
    rw [ep, ep', Nat.mul_assoc, show f + 2 = f + 1 + 1 from rfl, Nat.add_mul (f + 1), Nat.one_mul]
  have f1 : 1 * (p' * h.needs.length) ≤ (f + 1) * (p' * h.needs.length) := Nat.mul_le_mul_right _ (by omega)
  -- the last mark's loss
  have last : 0 < h.lossAt mj.a mj.y (d - 1) := by
    obtain ⟨m1, em1⟩ : ∃ m1, ms[ms.length - 2]? = some m1 := ⟨_, List.getElem?_eq_getElem (by omega)⟩
    obtain ⟨N, L, eN⟩ := W.nx em1 (show ms[ms.length - 2 + 1]? = some ml by rw [show ms.length - 2 + 1 = ms.length - 1 by omega]; exact e2)
    obtain ⟨c1, c2, _⟩ := W.at_ ha em1
    have N1 := L.n1
    have tN : ml.t = m1.t + N := by rw [eN]
    have lo := L.lost
    obtain ⟨N', rfl⟩ : ∃ N', N = N' + 1 := ⟨N - 1, by omega⟩
    have ql := ledN_quiet L.quiet
    rw [Nat.add_sub_cancel] at ql
    have e3 : h.lossAt mj.a mj.y (d - 1) = h.lossAt a x (m1.t + N') := by
      unfold lossAt
      have : m1.t + N' = mj.t + (d - 1) := by omega
      rw [this, ledN_add h a x mj.t, ← a2, ← a1, show (a + (mj.t + (d - 1))) % h.needs.length = (mj.a + (d - 1)) % h.needs.length by rw [a1, Nat.mod_add_mod, Nat.add_assoc]]
    rw [e3]
    unfold lossAt
    rw [ledN_add, ← c1, ← c2, ql, show (a + (m1.t + N')) % h.needs.length = (m1.a + N') % h.needs.length by rw [c1, Nat.mod_add_mod, Nat.add_assoc]]
    have e4 : m1.y + h.needN m1.a N' + h.need ((m1.a + N') % h.needs.length) = m1.y + h.needN m1.a (N' + 1) := by
      show _ = m1.y + (h.needN m1.a N' + h.need ((m1.a + N') % _))
      omega
    rw [e4]
    exact lo
  have early : 0 < h.lossAt mj.a mj.y (p' * h.needs.length - 1) := by
    have := loss_rounds al hL hN ho hd n0 r' (p' * h.needs.length - 1) (f + 1)
    rw [← this, show (f + 1) * (p' * h.needs.length) + (p' * h.needs.length - 1) = d - 1 by omega]
    exact last
  have early' : 0 < h.lossAt a x (mj.t + (p' * h.needs.length - 1)) := by
    have : h.lossAt mj.a mj.y (p' * h.needs.length - 1) = h.lossAt a x (mj.t + (p' * h.needs.length - 1)) := by
      unfold lossAt
      rw [ledN_add h a x mj.t, ← a2, ← a1, show (a + (mj.t + (p' * h.needs.length - 1))) % h.needs.length = (mj.a + (p' * h.needs.length - 1)) % h.needs.length by rw [a1, Nat.mod_add_mod, Nat.add_assoc]]
    rw [← this]
    exact early
  obtain ⟨i, m, il, ei, et⟩ := W.marks ha e2 (n := mj.t + (p' * h.needs.length - 1)) (by omega) early'
  have tm : m.t = mj.t + p' * h.needs.length := by omega
  obtain ⟨d1, d2, _⟩ := W.at_ ha ei
  have ma : m.a = mj.a := by
    rw [d1, tm, ← Nat.add_assoc, Nat.add_mul_mod_self_right, a1]
  have my : m.y = mj.y + q' * h.drops := by
    rw [d2, tm, ledN_add, ← a2, ← a1]
    exact r'
  have key : h.key m = h.key mj := by
    unfold Hill.key
    rw [ma, my, Int.add_mul_emod_self_right]
  have ij : j < i := by
    rcases Nat.lt_trichotomy i j with c | c | c
    · have := W.lt ha ei e1 c
      omega
    · subst c
      rw [e1] at ei
      cases ei
      omega
    · exact c
  have ilt : i < ms.length - 1 := by
    rcases Nat.lt_or_ge i (ms.length - 1) with c | c
    · exact c
    · have : i = ms.length - 1 := by omega
      subst this
      rw [e2] at ei
      cases ei
      omega
  have gi : ((ms.take (ms.length - 1)).map h.key)[i]? = some (h.key m) := by rw [List.getElem?_map, List.getElem?_take_of_lt ilt, ei]; rfl
  have gj : ((ms.take (ms.length - 1)).map h.key)[j]? = some (h.key mj) := by rw [List.getElem?_map, List.getElem?_take_of_lt (by omega), e1]; rfl
  obtain ⟨li, vi⟩ := List.getElem?_eq_some_iff.mp gi
  obtain ⟨lj, vj⟩ := List.getElem?_eq_some_iff.mp gj
  have := List.pairwise_iff_getElem.mp nod j i lj li ij
  rw [vi, vj] at this
  exact this key.symm
end
end Hill
end Hz
set_option Elab.async false
set_option linter.all false
namespace Hz
namespace Hill
section
variable {h : Hill} (hL : 0 < h.L) (hN : h.Nn) (ho : ∃ d, d ∈ h.year ∧ d.2 = true) (hd : 0 < h.drops)
include hL hN ho hd
/-- all lines go on alike but for less than a year -/
theorem led_near (a : Nat) (x y : Int) (n : Nat) : h.ledN a x n - x - h.drops < h.ledN a y n - y ∧ h.ledN a y n - y < h.ledN a x n - x + h.drops := by
  have key : ∀ x y : Int, h.ledN a y n - y < h.ledN a x n - x + h.drops := fun x y => by
    have em := Int.mul_ediv_add_emod (x - y) h.drops
    have e0 := Int.emod_nonneg (x - y) (show h.drops ≠ 0 by omega)
    have e1 := Int.emod_lt_of_pos (x - y) hd
    have m := ledN_mono hL hN ho hd a (show y + (x - y) / h.drops * h.drops ≤ x by rw [Int.mul_comm]; omega) n
    rw [ledN_year hL hN ho hd, Int.mul_comm] at m
    omega
  have := key x y
  have := key y x
  omega
/-- so many rounds of a pace lead by its years, but for less than one -/
theorem far_near (n0 : 0 < h.needs.length) {a a' : Nat} {x : Int} {p : Nat} {q : Int} (ha : a < h.needs.length) (ha' : a' < h.needs.length) (r : h.Rnd a x p q) (y : Int) (j : Nat) : -h.drops < h.ledN a' y (j * p * h.needs.length) - y - j * q * h.drops ∧ h.ledN a' y (j * p * h.needs.length) - y - j * q * h.drops < h.drops := by
  obtain ⟨x2, r2⟩ : ∃ x2, h.Rnd a' x2 p q := by
    refine ⟨h.ledN a x (h.needs.length - a + a'), ?_⟩
    have := Rnd.on hL hN ho hd r (h.needs.length - a + a')
    rw [show a + (h.needs.length - a + a') = a' + h.needs.length by omega] at this
    unfold Rnd at this ⊢
    rw [← ledN_mod, Nat.add_mod_right, ledN_mod] at this
    exact this
  have t := Rnd.times hL hN ho hd r2 j
  unfold Rnd at t
  have l := led_near hL hN ho hd a' x2 y (j * p * h.needs.length)
  rw [t] at l
  omega
/-- any number of rounds, by the pace's share of the years -/
theorem part_near (n0 : 0 < h.needs.length) {a a' : Nat} {x : Int} {p : Nat} {q : Int} (ha : a < h.needs.length) (ha' : a' < h.needs.length) (p1 : 1 ≤ p) (r : h.Rnd a x p q) (y : Int) (m : Nat) : -(h.drops * p) < (h.ledN a' y (m * h.needs.length) - y) * p - m * q * h.drops ∧ (h.ledN a' y (m * h.needs.length) - y) * p - m * q * h.drops < h.drops * p := by
  obtain ⟨x2, r2⟩ : ∃ x2, h.Rnd a' x2 p q := by
    refine ⟨h.ledN a x (h.needs.length - a + a'), ?_⟩
    have := Rnd.on hL hN ho hd r (h.needs.length - a + a')
    rw [show a + (h.needs.length - a + a') = a' + h.needs.length by omega] at this
    unfold Rnd at this ⊢
    rw [← ledN_mod, Nat.add_mod_right, ledN_mod] at this
    exact this
  obtain ⟨f, ef⟩ : ∃ f, f = h.ledN a' y (m * h.needs.length) - y := ⟨_, rfl⟩
  have near : ∀ z, f - h.drops < h.ledN a' z (m * h.needs.length) - z ∧ h.ledN a' z (m * h.needs.length) - z < f + h.drops := fun z => by
    have := led_near hL hN ho hd a' y z (m * h.needs.length)
    omega
  have all : ∀ j : Nat, (j : Int) * (f - h.drops) ≤ h.ledN a' x2 (j * m * h.needs.length) - x2 ∧ h.ledN a' x2 (j * m * h.needs.length) - x2 ≤ (j : Int) * (f + h.drops) ∧ (1 ≤ j → (j : Int) * (f - h.drops) < h.ledN a' x2 (j * m * h.needs.length) - x2 ∧ h.ledN a' x2 (j * m * h.needs.length) - x2 < (j : Int) * (f + h.drops)) := fun j => by
    induction j with
    | zero =>
      rw [Nat.zero_mul, Nat.zero_mul]
      have : h.ledN a' x2 0 = x2 := rfl
      rw [this]
      simp
    | succ j i =>
      have e : (j + 1) * m * h.needs.length = j * m * h.needs.length + m * h.needs.length := by rw [Nat.add_mul, Nat.one_mul, Nat.add_mul]
      rw [e, led_ring]
      have n := near (h.ledN a' x2 (j * m * h.needs.length))
      have c1 : ((j + 1 : Nat) : Int) * (f - h.drops) = (j : Int) * (f - h.drops) + (f - h.drops) := by rw [Int.natCast_add, Int.add_mul]; show _ + 1 * _ = _; rw [Int.one_mul]
      have c2 : ((j + 1 : Nat) : Int) * (f + h.drops) = (j : Int) * (f + h.drops) + (f + h.drops) := by rw [Int.natCast_add, Int.add_mul]; show _ + 1 * _ = _; rw [Int.one_mul]
      omega
  have t := Rnd.times hL hN ho hd r2 m
  unfold Rnd at t
  have A := (all p).2.2 p1
  rw [Nat.mul_comm p m, t] at A
  have b1 : (p : Int) * (f - h.drops) = f * p - h.drops * p := by rw [Int.mul_sub, Int.mul_comm (p : Int) f, Int.mul_comm (p : Int) h.drops]
  have b2 : (p : Int) * (f + h.drops) = f * p + h.drops * p := by rw [Int.mul_add, Int.mul_comm (p : Int) f, Int.mul_comm (p : Int) h.drops]
  rw [← ef]
  omega
/-- lines led by needs alone lose nothing -/
theorem quiet_of_led {a : Nat} {x : Int} : ∀ {n : Nat}, h.ledN a x n = x + h.needN a n → h.Quiet a x n
  | 0, _ => fun j h1 h2 => by omega
  | n + 1, e => by
    have l := ledN_need hL hN ho hd a x n
    have s := led_succ h a x n
    have en : h.needN a (n + 1) = h.needN a n + h.need ((a + n) % h.needs.length) := rfl
    have z0 : 0 ≤ h.lossAt a x n := lostZ_nn hL hN ho hd _
    have i := quiet_of_led (n := n) (a := a) (x := x) (by omega)
    intro j h1 h2
    by_cases c : j ≤ n
    · exact i j h1 c
    · obtain rfl : j = n + 1 := by omega
      have : h.lossAt a x n = 0 := by omega
      unfold lossAt at this
      rw [ledN_quiet i] at this
      rw [en, ← this]
      congr 1
      omega
/-- a round needs no more than its years give -/
theorem Rnd.need_le (n0 : 0 < h.needs.length) {a : Nat} {x : Int} {p : Nat} {q : Int} (r : h.Rnd a x p q) : (p : Int) * h.needs.sum ≤ q * h.drops := by
  have l := ledN_need hL hN ho hd a x (p * h.needs.length)
  unfold Rnd at r
  have e := needN_rounds h n0 a p 0
  have z : h.needN a 0 = 0 := rfl
  rw [Nat.add_zero, z] at e
  omega
/-- one that needs all loses nothing for ever -/
theorem Rnd.quiet (n0 : 0 < h.needs.length) {a : Nat} {x : Int} {p : Nat} {q : Int} (p1 : 1 ≤ p) (r : h.Rnd a x p q) (e : (p : Int) * h.needs.sum = q * h.drops) : ∀ k, h.Quiet a x k := by
  have en := needN_rounds h n0 a p 0
  have z : h.needN a 0 = 0 := rfl
  rw [Nat.add_zero, z] at en
  unfold Rnd at r
  have ql := quiet_of_led hL hN ho hd (a := a) (x := x) (n := p * h.needs.length) (by omega)
  refine quiet_round hL hN ho hd (i := 0) (j := p * h.needs.length) (Nat.mul_pos p1 n0) ql ?_ (z := q) ?_
  · rw [Nat.add_zero, Nat.add_mul_mod_self_right]
  · rw [z]
    omega
end
end Hill
end Hz
set_option Elab.async false
set_option linter.all false
namespace Hz
namespace Hill
section
variable {h : Hill} (hL : 0 < h.L) (hN : h.Nn) (ho : ∃ d, d ∈ h.year ∧ d.2 = true) (hd : 0 < h.drops)
include hL hN ho hd
/-- the first loss comes within so many turns -/
theorem loss_soon (n0 : 0 < h.needs.length) {a : Nat} {x : Int} {n : Nat} (p : h.LossT a x n) : n ≤ h.drops.toNat * h.needs.length := by
  refine Nat.not_lt.mp fun z => ?_
  have n1 := p.n1
  have md := Nat.mod_add_div (n - 1) h.needs.length
  have en : n = ((n - 1) / h.needs.length) * h.needs.length + ((n - 1) % h.needs.length + 1) := by
    rw [Nat.mul_comm]; omega
  obtain ⟨m, em⟩ : ∃ m, m = (n - 1) / h.needs.length := ⟨_, rfl⟩
  obtain ⟨k, ek⟩ : ∃ k, k = (n - 1) % h.needs.length := ⟨_, rfl⟩
  have kl : k < h.needs.length := by rw [ek]; exact Nat.mod_lt _ n0
  rw [← em, ← ek] at en
  have ml : h.drops.toNat ≤ m := by
    refine Nat.not_lt.mp fun c => ?_
    have : (m + 1) * h.needs.length ≤ h.drops.toNat * h.needs.length := Nat.mul_le_mul_right _ c
    rw [Nat.add_mul, Nat.one_mul] at this
    omega
  have dd : 0 < h.drops.toNat := by omega
  have e1 := Hill.needN_rounds h n0 a m (k + 1)
  have e2 := Hill.needN_rounds h n0 a (m % h.drops.toNat) (k + 1)
  have mm := Nat.mod_add_div m h.drops.toNat
  have em2 : (m : Int) = ((m % h.drops.toNat : Nat) : Int) + h.drops * ((m / h.drops.toNat : Nat) : Int) := by
    have e : ((m % h.drops.toNat : Nat) : Int) + ((h.drops.toNat : Nat) : Int) * ((m / h.drops.toNat : Nat) : Int) = m := by rw [← Int.natCast_mul, ← Int.natCast_add, mm]
    have t : ((h.drops.toNat : Nat) : Int) = h.drops := Int.toNat_of_nonneg (by omega)
    rw [t] at e
    exact e.symm
  have lt : (m % h.drops.toNat) * h.needs.length + (k + 1) ≤ n - 1 := by
    have : m % h.drops.toNat < m := Nat.lt_of_lt_of_le (Nat.mod_lt _ dd) ml
    have : (m % h.drops.toNat + 1) * h.needs.length ≤ m * h.needs.length := Nat.mul_le_mul_right _ this
    rw [Nat.add_mul, Nat.one_mul] at this
    omega
  have q := p.quiet _ (by omega) lt
  have lo := p.lost
  rw [en, e1, em2, Int.add_mul, show x + (((m % h.drops.toNat : Nat) : Int) * h.needs.sum + h.drops * ((m / h.drops.toNat : Nat) : Int) * h.needs.sum + h.needN a (k + 1)) = x + h.needN a ((m % h.drops.toNat) * h.needs.length + (k + 1)) + (((m / h.drops.toNat : Nat) : Int) * h.needs.sum) * h.drops by
    rw [e2]
    have : h.drops * ((m / h.drops.toNat : Nat) : Int) * h.needs.sum = (((m / h.drops.toNat : Nat) : Int) * h.needs.sum) * h.drops := by rw [Int.mul_assoc, Int.mul_comm]
    omega, Hill.lostZ_year hL hN ho hd] at lo
  omega
/-- so late comes a mark at the most -/
theorem Way.late (n0 : 0 < h.needs.length) {a : Nat} {x : Int} {ms : List Mk} {ag : Option Nat} (W : h.Way a x ms ag) : ∀ {i : Nat} {m : Mk}, ms[i]? = some m → m.t ≤ i * (h.drops.toNat * h.needs.length)
  | 0, m, e => by
    rw [W.fst] at e
    cases e
    exact Nat.zero_le _
  | i + 1, m', e => by
    obtain ⟨m, em⟩ : ∃ m, ms[i]? = some m := by
      obtain ⟨l, _⟩ := List.getElem?_eq_some_iff.mp e
      exact ⟨_, List.getElem?_eq_getElem (by omega)⟩
    have ih := Way.late n0 W em
    obtain ⟨N, L, rfl⟩ := W.nx em e
    have s := loss_soon hL hN ho hd n0 L
    show m.t + N ≤ _
    rw [Nat.add_mul, Nat.one_mul]
    omega
end
end Hill
end Hz
set_option Elab.async false
set_option linter.all false
set_option maxRecDepth 100000
set_option maxHeartbeats 4000000
namespace Z64
open PySem PySem.Spec PyProof.Rows L2 Hz
section
variable {P : Program} {w : World} {K : PySem.W.Frag} {mg : Str → Option Value} {base : Heap}
local macro_rules | `(tactic| walk_at "un") => `(tactic| try dsimp only [tSeq, tIfS, tRet, tAsg, tDrop, tOr, tAnd, tNot, tAndV, tOrV, tNotV, tTest, tB, tOp, tUn, tCB, tCons, tNil, tC, tNext, tIf, tChain, gName, tPar, tPar3, tTup, tLst])
theorem lossy_mod {h : Hill} (hk : HillOk h) {a : Nat} (x : Int) : Lossy h a (x % gcdI h) ↔ Lossy h a x := by
  have em := Int.mul_ediv_add_emod x (gcdI h)
  rw [← lossy_move hk (x / gcdI h), show x % gcdI h + x / gcdI h * gcdI h = x by rw [Int.mul_comm (x / gcdI h)]; omega]
theorem all_to {h : Hill} (hk : HillOk h) (p : ∀ y, Lossy h 0 y) : ∀ a, a < h.needs.length → ∀ y, Lossy h a y
  | 0, _ => p
  | a + 1, l => by
    have := all_next hk (a := a) (by omega) (all_to hk p a (by omega))
    rwa [Nat.mod_eq_of_lt l] at this
theorem all_lossy {h : Hill} (hk : HillOk h) {l : List (Int × Int)} (G : Gaps (gcdI h) (Lossy h 0) l) (z : ¬ 0 < l.length) : ∀ y, Lossy h 0 y := fun y => by
  have z := List.length_eq_zero_iff.mp (show l.length = 0 by omega)
  subst z
  have g0 := gcd_pos hk
  rw [← lossy_mod hk]
  refine Classical.byContradiction fun n => ?_
  obtain ⟨p, hp, _⟩ := (G.eq (y % gcdI h) (Int.emod_nonneg y (by omega)) (Int.emod_lt_of_pos y g0)).mpr n
  cases hp
/-- where a class is spared a round is as many rounds of needs alone -/
theorem quiet_rnd {h : Hill} (hk : HillOk h) {a : Nat} {x : Int} (q : ∀ k, h.Quiet a x k) : ∃ p r : Nat, h.drops / gcdI h = p ∧ h.needs.sum / gcdI h = r ∧ 1 ≤ p ∧ Nat.gcd p r = 1 ∧ h.Rnd a x p r := by
  have dp := hk.dr
  have rp := ring_pos hk
  have gp : 0 < Nat.gcd h.drops.natAbs h.needs.sum.natAbs := Nat.gcd_pos_of_pos_left _ (by omega)
  have cop := Nat.coprime_div_gcd_div_gcd gp
  obtain ⟨d, ed⟩ := Nat.gcd_dvd_left h.drops.natAbs h.needs.sum.natAbs
  obtain ⟨r, er⟩ := Nat.gcd_dvd_right h.drops.natAbs h.needs.sum.natAbs
  unfold gcdI
  generalize Nat.gcd h.drops.natAbs h.needs.sum.natAbs = g at *
  have eD : h.drops = ((g * d : Nat) : Int) := by omega
  have eR : h.needs.sum = ((g * r : Nat) : Int) := by omega
  have d1 : g * d / g = d := Nat.mul_div_cancel_left _ gp
  have r1 : g * r / g = r := Nat.mul_div_cancel_left _ gp
  rw [ed, er, d1, r1] at cop
  refine ⟨d, r, by rw [eD, ← Int.natCast_ediv, d1], by rw [eR, ← Int.natCast_ediv, r1], ?_, cop, ?_⟩
  · refine Nat.pos_of_ne_zero fun z => ?_
    rw [z, Nat.mul_zero] at eD
    omega
  · unfold Hill.Rnd
    rw [Hill.ledN_quiet (q _)]
    have := Hill.needN_rounds h hk.n1 a d 0
    have z0 : h.needN a 0 = 0 := rfl
    rw [Nat.add_zero, z0] at this
    rw [this, eR, eD, ← Int.natCast_mul, ← Int.natCast_mul, show d * (g * r) = r * (g * d) by rw [← Nat.mul_assoc, ← Nat.mul_assoc, Nat.mul_comm d, Nat.mul_comm r, Nat.mul_assoc, Nat.mul_assoc, Nat.mul_comm d]]
    omega
theorem spare_at {h : Hill} (hk : HillOk h) {l : List (Int × Int)} (G : Gaps (gcdI h) (Lossy h 0) l) (l0 : 0 < l.length) : ∃ x, ∀ k, h.Quiet 0 x k := by
  match l, l0, G with
  | p :: l, _, G =>
    have i := G.in_ p (by simp)
    exact ⟨p.1, (quiet_iff hk).mpr ((G.eq p.1 (by omega) (by omega)).mp ⟨p, by simp, by omega, by omega⟩)⟩
/-- a pair in lowest terms that some round has -/
def spPace (K : PySem.W.Frag) : Sp := fun vs H Q _ => ∃ (t : Bool) (h : Hill) (v : V), vs = [v] ∧ Dp K H v (h.dat t) ∧ HillOk h ∧
  ∀ (p q : Nat) (a : Nat) (x : Int) r H', 1 ≤ p → p ≤ 10 ^ 20 → q ≤ 10 ^ 40 → Nat.gcd p q = 1 → a < h.needs.length → h.Rnd a x p q → H' r = some (.tup [.int p, .int q]) → H r = none → Ex [] H H' → Q (.ref r) H'
end
end Z64
set_option Elab.async false
set_option linter.all false
set_option maxRecDepth 100000
set_option maxHeartbeats 4000000
namespace Z64
open PySem PySem.Spec PyProof.Rows L2 Hz
section
variable {P : Program} {w : World} {K : PySem.W.Frag} {mg : Str → Option Value} {base : Heap}
local macro_rules | `(tactic| walk_at "un") => `(tactic| try dsimp only [tSeq, tIfS, tRet, tAsg, tDrop, tOr, tAnd, tNot, tAndV, tOrV, tNotV, tTest, tB, tOp, tUn, tCB, tCons, tNil, tC, tNext, tIf, tChain, gName, tPar, tPar3, tTup, tLst])
/-- a loss between two marks -/
def lossB (h : Hill) (m m' : Hill.Mk) : Int := m'.y - m.y - h.needN m.a (m'.t - m.t)
def spTold (K : PySem.W.Frag) : Sp := fun vs H Q _ => ∃ (t : Bool) (h : Hill) (v : V) (day : Nat) (m m' : Hill.Mk) (mv mv' : V), vs = [v, .int day, mv, mv'] ∧ Dp K H v (h.dat t) ∧ HillOk h ∧ Dp K H mv (markD m) ∧ Dp K H mv' (markD m') ∧ m.t ≤ m'.t ∧
  ∀ (ev : Nat) p r H', h.EvOf day m'.y ev → Fr K H H' (.ref p) (Now.dat true ⟨ev, m'.a, h.given ev - m'.y⟩) → H r = none → H' r = some (.tup [.int m'.t, .ref p, .int (lossB h m m')]) → Ex [] H H' → Q (.ref r) H'
theorem ok_told_loss (T : Txt K mg) : FnOk P w K mg base CX0 4 T.a_told_loss T.d_told_loss P_told_loss (spTold K) := by
  have nd := sc_told_loss.nd
  have G_needed := ok_needed (P := P) (w := w) (base := base) T
  have G_state_behind := ok_state_behind (P := P) (w := w) (base := base) T
  refine T.F_told_loss.ok sc_told_loss (fun vs H Q E h => ?_) (fun cdv A outer s H vs Q E hr h => ?_)
  · obtain ⟨t, h, v, day, m, m', mv, mv', rfl, _⟩ := h
    rfl
  · obtain ⟨t, h, v, day, m, m', mv, mv', rfl, hD, hk, hm, hm', le, q⟩ := h
    have hr_needed := hr.mono (show 2 ≤ 3 by decide)
    have hr_state_behind := hr
    refine ⟨_, (pss_cons (ps_asg (pv 3) (pg_seqK K 3 (by rfl) (pgs_cons (pg_name (i := 4) nd rfl (Or.inl rfl)) (pgs_cons (pg_name (i := 5) nd rfl (Or.inl rfl)) (pgs_cons (pg_name (i := 6) nd rfl (Or.inl rfl)) pgs_nil)))))
      (pss_cons (ps_set (i := 7) nd rfl (Or.inl rfl) (pe_op op_sub (pe_op op_sub (pv 6) (pe_ix (ixK K) (pv 2) pe_int (fun _ _ => rfl))) (pe_call G_needed hr_needed (by rfl) T.m_needed T.k_needed T.b_needed .nil pass0 (pa_cons (pv 0) (pa_cons (pe_ix (ixK K) (pv 2) pe_int (fun _ _ => rfl)) (pa_cons (pe_op op_sub (pv 4) (pe_ix (ixK K) (pv 2) pe_int (fun _ _ => rfl))) pa_nil))))))
      (pss_one (ps_ret (pe_tup (pa_cons (pv 4) (pa_cons (pe_call G_state_behind hr_state_behind (by rfl) T.m_state_behind T.k_state_behind T.b_state_behind .nil pass0 (pa_cons (pv 0) (pa_cons (pv 1) (pa_cons (pv 5) (pa_cons (pv 6) pa_nil))))) (pa_cons (pv 7) pa_nil)))))))), ?_⟩
    obtain ⟨ma, rfl, hmS⟩ := mark_dp hm
    obtain ⟨ma', rfl, hmS'⟩ := mark_dp hm'
    walk_at "un"
    refine ⟨_, rfl, z_gSq (t := true) hmS' rfl ⟨_, _, rfl, _, _, rfl, _, _, rfl, rfl, ?_⟩⟩
    walk_at "un"
    refine ⟨_, rfl, _, rfl, z_ix (.inr hmS) (i := 2) (v := .int m.y) rfl ⟨_, _, rfl, rfl, ?_⟩⟩
    refine ⟨_, rfl, _, rfl, z_ix (.inr hmS) (i := 1) (v := .int m.a) rfl ⟨_, rfl, _, rfl, z_ix (.inr hmS) (i := 0) (v := .int m.t) rfl ⟨_, _, rfl, rfl, ?_⟩⟩⟩
    refine ⟨t, h, v, m.a, m'.t - m.t, by rw [Int.natCast_sub le]; rfl, hD, hk, fun H1 x1 => ?_⟩
    refine ⟨_, _, rfl, rfl, ?_⟩
    refine ⟨_, rfl, _, rfl, _, rfl, _, rfl, _, rfl, t, h, v, day, m'.a, m'.y, rfl, dp_le x1.le0 _ _ hD, hk, fun ev p H2 he hp hp2 x2 => ?_⟩
    refine ⟨_, rfl, show 3 ≤ sizeLine by decide, fun pz hpz => ?_⟩
    have x3 := x1.trans x2
    have np : p ≠ pz := ne_of_none hp2 hpz
    refine q ev p pz _ he (fun B hB => ?_) (x3.free hpz) upd_same (x3.trans (Ex.new hpz))
    exact .tup (SqT.of (wo_of (fun z => hB p z (x1.free hp)) (by rw [upd_ne np]; exact hp2))) (dpa_of_ints [(ev : Int), (m'.a : Int), h.given ev - m'.y])
/-- the next loss -/
def spNextL (K : PySem.W.Frag) : Sp := fun vs H Q _ => ∃ (t t2 : Bool) (h : Hill) (s : Now) (v u : V), vs = [v, u] ∧ Dp K H v (h.dat t) ∧ HillOk h ∧ Dp K H u (s.dat t2) ∧ s.ant < h.needs.length ∧
  (∀ H', (∀ k, h.Quiet s.ant (lineAt h s) k) → Ex [] H H' → Q .non H') ∧
  ∀ (n ev : Nat) p r H', h.LossT s.ant (lineAt h s) n → h.EvOf s.day (h.ledN s.ant (lineAt h s) n) ev → Fr K H H' (.ref p) ((farN h s n ev).dat true) → H r = none → H' r = some (.tup [.int n, .ref p, .int (h.lostZ (lineAt h s + h.needN s.ant n))]) → Ex [] H H' → Q (.ref r) H'
theorem ok_next_loss (T : Txt K mg) : FnOk P w K mg base CX0 6 T.a_next_loss T.d_next_loss P_next_loss (spNextL K) := by
  have nd := sc_next_loss.nd
  have G_line_of := ok_line_of (P := P) (w := w) (base := base) T
  have G_mark_behind := ok_mark_behind (P := P) (w := w) (base := base) T
  have G_stretches := ok_stretches (P := P) (w := w) (base := base) T
  have G_told_loss := ok_told_loss (P := P) (w := w) (base := base) T
  refine T.F_next_loss.ok sc_next_loss (fun vs H Q E h => ?_) (fun cdv A outer s H vs Q E hr h => ?_)
  · obtain ⟨t, t2, h, s, v, u, rfl, _⟩ := h
    rfl
  · obtain ⟨t, t2, h, st, v, u, rfl, hD, hk, hS, ha, qn, q⟩ := h
    have hr_line_of := hr.mono (show 3 ≤ 5 by decide)
    have hr_mark_behind := hr
    have hr_stretches := hr.mono (show 4 ≤ 5 by decide)
    have hr_told_loss := hr.mono (show 4 ≤ 5 by decide)
    refine ⟨_, (pss_cons (ps_set (i := 2) nd rfl (Or.inl rfl) (pe_tup (pa_cons pe_int (pa_cons (pe_ix (ixK K) (pv 1) pe_int (fun _ _ => rfl)) (pa_cons (pe_call G_line_of hr_line_of (by rfl) T.m_line_of T.k_line_of T.b_line_of .nil pass0 (pa_cons (pv 0) (pa_cons (pv 1) pa_nil))) pa_nil)))))
      (pss_cons (ps_set (i := 3) nd rfl (Or.inl rfl) (pe_call G_mark_behind hr_mark_behind (by rfl) T.m_mark_behind T.k_mark_behind T.b_mark_behind .nil pass0 (pa_cons (pv 0) (pa_cons (pe_call G_stretches hr_stretches (by rfl) T.m_stretches T.k_stretches T.b_stretches .nil pass0 (pa_cons (pv 0) pa_nil)) (pa_cons (pv 2) pa_nil)))))
      (pss_cons (ps_if (pt_cmpR op_isN (pv 3) pe_non (nomark _)) (pss_one (ps_ret pe_non)) pss_nil)
      (pss_one (ps_ret (pe_call G_told_loss hr_told_loss (by rfl) T.m_told_loss T.k_told_loss T.b_told_loss .nil pass0 (pa_cons (pv 0) (pa_cons (pe_ix (ixK K) (pv 1) pe_int (fun _ _ => rfl)) (pa_cons (pv 2) (pa_cons (pv 3) pa_nil)))))))))), ?_⟩
    walk_at "un"
    refine ⟨_, rfl, z_ixD hS (Le.refl _) (j := 1) rfl rfl fun d hd => ?_⟩
    obtain rfl := dp_int hd
    refine ⟨_, rfl, _, rfl, t, t2, h, st, v, u, rfl, hD, hk, hS, fun H1 x1 => ⟨show 3 ≤ sizeLine by decide, fun p hp => ?_⟩⟩
    have x2 := x1.trans (Ex.new (B := []) (o := .tup [.int 0, .int st.ant, .int (lineAt h st)]) hp)
    have hM : Dp K (upd H1 p (.tup [.int 0, .int st.ant, .int (lineAt h st)])) (.ref p) (markD ⟨0, st.ant, lineAt h st⟩) := .tup (SqT.of upd_same) (dpa_of_ints [(0 : Int), (st.ant : Int), lineAt h st])
    revert x2 hM
    generalize upd H1 p (.tup [.int 0, .int st.ant, .int (lineAt h st)]) = H2
    intro x2 hM
    refine ⟨_, rfl, _, rfl, t, h, v, rfl, dp_le x2.le0 _ _ hD, hk, fun l us L H3 hl hL hL3 hA x3 => ?_⟩
    have x23 := x2.trans x3
    refine ⟨_, rfl, t, h, v, l, us, L, ⟨0, st.ant, lineAt h st⟩, .ref p, rfl, dp_le x23.le0 _ _ hD, hk, hl, SqL.of hL3, dpa_le (wo_le _ _) _ _ (hA [] (by simp)), dp_le x3.le0 _ _ hM, ha, fun H4 no x4 => ?_, fun m' q1 H4 hnx hq1 hq4 x4 => ?_⟩
    · exact ⟨_, rfl, rfl, _, rfl, iteT (qn H4 no (x23.trans x4))⟩
    · obtain ⟨n, Lt, rfl⟩ := hnx
      have x24 := x23.trans x4
      refine ⟨_, rfl, rfl, _, rfl, iteF ?_⟩
      refine ⟨_, rfl, _, rfl, z_ixD (dp_le x24.le0 _ _ hS) (Le.refl _) (j := 0) rfl rfl fun d hd => ?_⟩
      obtain rfl := dp_int hd
      refine ⟨_, rfl, _, rfl, t, h, v, st.day, ⟨0, st.ant, lineAt h st⟩, ⟨0 + n, (st.ant + n) % h.needs.length, h.ledN st.ant (lineAt h st) n⟩, .ref p, .ref q1, rfl, dp_le x24.le0 _ _ hD, hk, dp_le (x3.trans x4).le0 _ _ hM, .tup (SqT.of hq4) (dpa_of_ints [((0 + n : Nat) : Int), (((st.ant + n) % h.needs.length : Nat) : Int), h.ledN st.ant (lineAt h st) n]), Nat.zero_le _, fun ev p3 r H5 he hF hr0 hr5 x5 => ?_⟩
      refine q n ev p3 r H5 Lt he (Fr.back x24 hF) (x24.free hr0) ?_ (x24.trans x5)
      rw [hr5]
      have e : lossB h ⟨0, st.ant, lineAt h st⟩ ⟨0 + n, (st.ant + n) % h.needs.length, h.ledN st.ant (lineAt h st) n⟩ = h.lostZ (lineAt h st + h.needN st.ant n) := by
        have e2 : h.ledN st.ant (lineAt h st) n = lineAt h st + h.needN st.ant n + h.lostZ (lineAt h st + h.needN st.ant n) := Lt.led
        show h.ledN st.ant (lineAt h st) n - lineAt h st - h.needN st.ant (0 + n - 0) = _
        rw [e2, Nat.zero_add, Nat.sub_zero]
        omega
      rw [e]
      dsimp only
      rw [Nat.zero_add]
end
end Z64
set_option Elab.async false
set_option linter.all false
namespace Hz
namespace Hill
theorem nx_uniq {h : Hill} {m a b : Mk} (x : h.Nx m a) (y : h.Nx m b) : a = b := by
  obtain ⟨n, p, rfl⟩ := x
  obtain ⟨k, q, rfl⟩ := y
  rw [lossT_uniq p q]
theorem nx_quiet {h : Hill} {m a : Mk} (x : h.Nx m a) (q : ∀ k, h.Quiet m.a m.y k) : False := by
  obtain ⟨n, p, _⟩ := x
  exact lossT_quiet p q
/-- the i-th mark behind a mark -/
inductive MarkN (h : Hill) (m0 : Mk) : Nat → Mk → Prop
  | zero : MarkN h m0 0 m0
  | succ {i : Nat} {m m' : Mk} : MarkN h m0 i m → h.Nx m m' → MarkN h m0 (i + 1) m'
theorem markN_uniq {h : Hill} {m0 : Mk} : ∀ {i : Nat} {a b : Mk}, h.MarkN m0 i a → h.MarkN m0 i b → a = b
  | _, _, _, .zero, .zero => rfl
  | _, _, _, .succ p x, .succ q y => by
    rw [markN_uniq p q] at x
    exact nx_uniq x y
theorem Way.markNo {h : Hill} {a : Nat} {x : Int} {ms : List Mk} (W : h.Way a x ms none) {i : Nat} {m : Mk} (M : h.MarkN ⟨0, a, x⟩ i m) : ms[i]? = some m := by
  induction M with
  | zero => exact W.fst
  | @succ i m m' M x ih =>
    have l := (List.getElem?_eq_some_iff.mp ih).1
    by_cases c : i + 1 < ms.length
    · have e : ms[i + 1]? = some ms[i + 1] := List.getElem?_eq_getElem c
      rw [e, nx_uniq x (W.nx ih e)]
    · exact (nx_quiet x (W.fin rfl (by rw [show ms.length - 1 = i by omega]; exact ih))).elim
/-- a mark so many times around more -/
def shM (T : Nat) (D : Int) (r : Nat) (m : Mk) : Mk := ⟨m.t + r * T, m.a, m.y + r * D⟩
section
variable {h : Hill} (hL : 0 < h.L) (hN : h.Nn) (ho : ∃ d, d ∈ h.year ∧ d.2 = true) (hd : 0 < h.drops)
include hL hN ho hd
theorem lossT_year {a : Nat} {x : Int} {n : Nat} (k : Int) (p : h.LossT a x n) : h.LossT a (x + k * h.drops) n := by
  have e : ∀ j, h.lostZ (x + k * h.drops + h.needN a j) = h.lostZ (x + h.needN a j) := fun j => by
    rw [show x + k * h.drops + h.needN a j = x + h.needN a j + k * h.drops by omega, lostZ_year hL hN ho hd]
  exact ⟨p.n1, fun j h1 h2 => by rw [e]; exact p.quiet j h1 h2, by rw [e]; exact p.lost⟩
theorem nx_year {m m' : Mk} (x : h.Nx m m') (T : Nat) (k : Int) : h.Nx ⟨m.t + T, m.a, m.y + k * h.drops⟩ ⟨m'.t + T, m'.a, m'.y + k * h.drops⟩ := by
  obtain ⟨n, p, rfl⟩ := x
  refine ⟨n, lossT_year hL hN ho hd k p, ?_⟩
  dsimp only
  rw [ledN_year hL hN ho hd, show m.t + T + n = m.t + n + T by omega]
variable {a : Nat} {x : Int} {ms : List Mk} {ag : Option Nat}
omit hL hN ho hd in
theorem Way.markN (W : h.Way a x ms ag) : ∀ {i m}, ms[i]? = some m → h.MarkN ⟨0, a, x⟩ i m
  | 0, m, e => by
    rw [W.fst] at e
    cases e
    exact .zero
  | i + 1, m, e => by
    obtain ⟨m1, e1⟩ : ∃ m1, ms[i]? = some m1 := ⟨_, List.getElem?_eq_getElem (by have := (List.getElem?_eq_some_iff.mp e).1; omega)⟩
    exact .succ (W.markN e1) (W.nx e1 e)
/-- marks come round -/
theorem Way.markR (W : h.Way a x ms ag) {j : Nat} (ej : ag = some j) {mj ml : Mk} (e1 : ms[j]? = some mj) (e2 : ms[ms.length - 1]? = some ml) : ∀ i, j ≤ i → ∃ m, ms[j + (i - j) % (ms.length - 1 - j)]? = some m ∧ h.MarkN ⟨0, a, x⟩ i (shM (ml.t - mj.t) (ml.y - mj.y) ((i - j) / (ms.length - 1 - j)) m) := by
  obtain ⟨lt, mj', ml', e1', e2', ea, k, ey⟩ := W.rep ej
  rw [e1] at e1'
  rw [e2] at e2'
  cases e1'
  cases e2'
  obtain ⟨p, hp⟩ : ∃ p, p = ms.length - 1 - j := ⟨_, rfl⟩
  have p0 : 0 < p := by omega
  have tl : mj.t ≤ ml.t := by
    -- marks' turns rise
    have up : ∀ (d i : Nat) (m m' : Mk), ms[i]? = some m → ms[i + d]? = some m' → m.t ≤ m'.t := fun d => by
      induction d with
      | zero => intro i m m' q1 q2; rw [Nat.add_zero, q1] at q2; cases q2; exact Nat.le_refl _
      | succ d ih =>
        intro i m m' q1 q2
        obtain ⟨m1, q3⟩ : ∃ m1, ms[i + d]? = some m1 := ⟨_, List.getElem?_eq_getElem (by have := (List.getElem?_eq_some_iff.mp q2).1; omega)⟩
        obtain ⟨n, _, rfl⟩ := W.nx q3 (by rw [Nat.add_assoc]; exact q2)
        have := ih i m m1 q1 q3
        show m.t ≤ m1.t + n
        omega
    exact up (ms.length - 1 - j) j mj ml e1 (by rw [show j + (ms.length - 1 - j) = ms.length - 1 by omega]; exact e2)
  rw [← hp]
  intro i
  induction i with
  | zero =>
    intro hi
    have : j = 0 := by omega
    subst this
    refine ⟨mj, by rw [Nat.zero_sub, Nat.zero_mod]; exact e1, ?_⟩
    rw [Nat.zero_sub, Nat.zero_div]
    have e : shM (ml.t - mj.t) (ml.y - mj.y) 0 mj = mj := by unfold shM; simp
    rw [e]
    exact W.markN e1
  | succ i ih =>
    intro hi
    by_cases c : j = i + 1
    · refine ⟨mj, by rw [← c, Nat.sub_self, Nat.zero_mod]; exact e1, ?_⟩
      rw [← c, Nat.sub_self, Nat.zero_div]
      have e : shM (ml.t - mj.t) (ml.y - mj.y) 0 mj = mj := by unfold shM; simp
      rw [e]
      exact W.markN e1
    · obtain ⟨m, em, M⟩ := ih (by omega)
      have dm := Nat.div_add_mod (i - j) p
      have ml2 := Nat.mod_lt (i - j) p0
      have ei : i + 1 - j = (i - j) + 1 := by omega
      rw [ei]
      obtain ⟨m', em'⟩ : ∃ m', ms[j + (i - j) % p + 1]? = some m' := ⟨_, List.getElem?_eq_getElem (by omega)⟩
      have nx := W.nx em em'
      have sh : h.Nx (shM (ml.t - mj.t) (ml.y - mj.y) ((i - j) / p) m) (shM (ml.t - mj.t) (ml.y - mj.y) ((i - j) / p) m') := by
        have := nx_year hL hN ho hd nx ((i - j) / p * (ml.t - mj.t)) (((i - j) / p : Nat) * k)
        unfold shM
        rw [show ml.y - mj.y = k * h.drops by omega, ← Int.mul_assoc]
        exact this
      by_cases c2 : (i - j) % p + 1 < p
      · have a1 : (i - j + 1) % p = (i - j) % p + 1 := by
          rw [Nat.add_mod, Nat.mod_eq_of_lt (show 1 < p by omega), Nat.mod_eq_of_lt c2]
        have a2 : (i - j + 1) / p = (i - j) / p := by
          rw [Nat.div_eq_iff p0]
          rw [Nat.mul_comm] at dm
          rw [Nat.mul_comm]
          rw [Nat.mul_comm] at dm
          omega
        refine ⟨m', by rw [a1, ← Nat.add_assoc]; exact em', ?_⟩
        rw [a2]
        exact .succ M sh
      · have c3 : (i - j) % p + 1 = p := by omega
        have a0 : i - j + 1 = p * ((i - j) / p + 1) := by rw [Nat.mul_add, Nat.mul_one]; omega
        have a1 : (i - j + 1) % p = 0 := by rw [a0]; exact Nat.mul_mod_right _ _
        have a2 : (i - j + 1) / p = (i - j) / p + 1 := by rw [a0, Nat.mul_div_cancel_left _ p0]
        refine ⟨mj, by rw [a1, Nat.add_zero]; exact e1, ?_⟩
        rw [a2]
        have em2 : m' = ml := by
          rw [show j + (i - j) % p + 1 = ms.length - 1 by omega, e2] at em'
          exact (Option.some.inj em').symm
        have e : shM (ml.t - mj.t) (ml.y - mj.y) ((i - j) / p + 1) mj = shM (ml.t - mj.t) (ml.y - mj.y) ((i - j) / p) m' := by
          rw [em2]
          unfold shM
          rw [Nat.add_mul, Nat.one_mul, Int.natCast_add, Int.add_mul, ea]
          congr 1
          · omega
          · omega
        rw [e]
        exact .succ M sh
end
/-- how a mark stands, begun on that day -/
def nowM (h : Hill) (m : Mk) (ev : Nat) : Now := ⟨ev, m.a, h.given ev - m.y⟩
/-- what is lost between two marks -/
def lossM (h : Hill) (m m' : Mk) : Int := m'.y - m.y - h.needN m.a (m'.t - m.t)
/-- losses told one behind the other, and the marks -/
structure LossL (h : Hill) (day : Nat) (m0 : Mk) (L : List (Nat × Now × Int)) (ms : List Mk) : Prop where
  len : ms.length = L.length + 1
  fst : ms[0]? = some m0
  nx : ∀ {i m m'}, ms[i]? = some m → ms[i + 1]? = some m' → h.Nx m m'
  at_ : ∀ {i m m'}, ms[i]? = some m → ms[i + 1]? = some m' → ∃ s1, L[i]? = some (m'.t, s1, h.lossM m m') ∧ ∀ ev, h.EvOf day m'.y ev → h.nowM m' ev = s1
/-- as many as are wanted, or no more come -/
def Enough (h : Hill) (n : Nat) (L : List (Nat × Now × Int)) (ms : List Mk) : Prop := L.length = n ∨ (L.length ≤ n ∧ ∃ m, ms[L.length]? = some m ∧ ∀ k, h.Quiet m.a m.y k)
theorem LossL.nil (h : Hill) (day : Nat) (m0 : Mk) : h.LossL day m0 [] [m0] := ⟨rfl, rfl, fun {i m m'} _ e => by simp at e, fun {i m m'} _ e => by simp at e⟩
theorem LossL.snoc {h : Hill} {day : Nat} {m0 m m' : Mk} {L : List (Nat × Now × Int)} {ms : List Mk} (p : h.LossL day m0 L ms) (e : ms[L.length]? = some m) (x : h.Nx m m') {s1 : Now} (v : ∀ ev, h.EvOf day m'.y ev → h.nowM m' ev = s1) : h.LossL day m0 (L ++ [(m'.t, s1, h.lossM m m')]) (ms ++ [m']) where
  len := by rw [List.length_append, List.length_append, p.len]; rfl
  fst := by
    have := p.len
    rw [List.getElem?_append_left (by omega)]
    exact p.fst
  nx := fun {i a b} e1 e2 => by
    have pl := p.len
    by_cases c : i + 1 < ms.length
    · rw [List.getElem?_append_left (by omega)] at e1 e2
      exact p.nx e1 e2
    · have c2 : i + 1 = ms.length := by
        have := (List.getElem?_eq_some_iff.mp e2).1
        rw [List.length_append, List.length_singleton] at this
        omega
      rw [List.getElem?_append_left (by omega)] at e1
      rw [List.getElem?_append_right (by omega), c2, Nat.sub_self] at e2
      obtain rfl : m' = b := Option.some.inj e2
      rw [show i = L.length by omega, e] at e1
      cases e1
      exact x
  at_ := fun {i a b} e1 e2 => by
    have pl := p.len
    by_cases c : i + 1 < ms.length
    · rw [List.getElem?_append_left (by omega)] at e1 e2
      obtain ⟨s, h1, h2⟩ := p.at_ e1 e2
      exact ⟨s, by rw [List.getElem?_append_left (List.getElem?_eq_some_iff.mp h1).1]; exact h1, h2⟩
    · have c2 : i + 1 = ms.length := by
        have := (List.getElem?_eq_some_iff.mp e2).1
        rw [List.length_append, List.length_singleton] at this
        omega
      rw [List.getElem?_append_left (by omega)] at e1
      rw [List.getElem?_append_right (by omega), c2, Nat.sub_self] at e2
      obtain rfl : m' = b := Option.some.inj e2
      have ei : i = L.length := by omega
      rw [ei, e] at e1
      cases e1
      exact ⟨s1, by rw [ei, List.getElem?_append_right (Nat.le_refl _), Nat.sub_self]; rfl, v⟩
theorem LossL.same {h : Hill} {d d' : Nat} {m0 : Mk} {L L' : List (Nat × Now × Int)} {ms ms' : List Mk} (p : h.LossL d m0 L ms) (q : h.LossL d' m0 L' ms') : ∀ i : Nat, i < ms.length → i < ms'.length → ms[i]? = ms'[i]?
  | 0, _, _ => by rw [p.fst, q.fst]
  | i + 1, h1, h2 => by
    have ih := LossL.same p q i (by omega) (by omega)
    obtain ⟨m, em⟩ : ∃ m, ms[i]? = some m := ⟨_, List.getElem?_eq_getElem (by omega)⟩
    obtain ⟨m1, em1⟩ : ∃ m, ms[i + 1]? = some m := ⟨_, List.getElem?_eq_getElem h1⟩
    obtain ⟨m2, em2⟩ : ∃ m, ms'[i + 1]? = some m := ⟨_, List.getElem?_eq_getElem h2⟩
    rw [em1, em2, nx_uniq (p.nx em em1) (q.nx (ih.symm.trans em) em2)]
theorem LossL.uniq {h : Hill} (hL : 0 < h.L) (hN : h.Nn) (ho : ∃ d, d ∈ h.year ∧ d.2 = true) (hd : 0 < h.drops) {d n : Nat} {m0 : Mk} {L L' : List (Nat × Now × Int)} {ms ms' : List Mk} (p : h.LossL d m0 L ms) (q : h.LossL d m0 L' ms') (f : h.Enough n L ms) (g : h.Enough n L' ms') : L = L' := by
  have pl := p.len
  have ql := q.len
  have no : ∀ {A B : List (Nat × Now × Int)} {as bs : List Mk}, h.LossL d m0 A as → h.LossL d m0 B bs → h.Enough n A as → h.Enough n B bs → A.length < B.length → False := fun {A B as bs} p q f g c => by
    have pl := p.len
    have ql := q.len
    rcases f with f | ⟨_, m, em, qu⟩
    · rcases g with g | ⟨g, _⟩ <;> omega
    · obtain ⟨m', em'⟩ : ∃ m', bs[A.length + 1]? = some m' := ⟨_, List.getElem?_eq_getElem (by omega)⟩
      have := LossL.same p q A.length (by omega) (by omega)
      exact nx_quiet (q.nx (this.symm.trans em) em') qu
  have ll : L.length = L'.length := by
    rcases Nat.lt_trichotomy L.length L'.length with c | c | c
    · exact (no p q f g c).elim
    · exact c
    · exact (no q p g f c).elim
  refine List.ext_getElem? fun i => ?_
  by_cases c : i < L.length
  · obtain ⟨m, em⟩ : ∃ m, ms[i]? = some m := ⟨_, List.getElem?_eq_getElem (by omega)⟩
    obtain ⟨m1, em1⟩ : ∃ m, ms[i + 1]? = some m := ⟨_, List.getElem?_eq_getElem (by omega)⟩
    obtain ⟨s1, a1, a2⟩ := p.at_ em em1
    obtain ⟨s2, b1, b2⟩ := q.at_ ((LossL.same p q i (by omega) (by omega)).symm.trans em) ((LossL.same p q (i + 1) (by omega) (by omega)).symm.trans em1)
    obtain ⟨ev, hev⟩ : ∃ ev, h.EvOf d m1.y ev := by
      by_cases c : m1.y ≤ 0
      · exact ⟨d, .inl ⟨c, rfl⟩⟩
      · obtain ⟨m, hm⟩ := dayOf_ex hN hL ho hd m1.y
        exact ⟨_, .inr ⟨by omega, m, hm, rfl⟩⟩
    rw [a1, b1, ← a2 ev hev, ← b2 ev hev]
  · rw [List.getElem?_eq_none (by omega), List.getElem?_eq_none (by omega)]
end Hill
end Hz
set_option Elab.async false
set_option linter.all false
set_option maxRecDepth 100000
set_option maxHeartbeats 4000000
namespace Z64
open PySem PySem.Spec PyProof.Rows L2 Hz
section
variable {P : Program} {w : World} {K : PySem.W.Frag} {mg : Str → Option Value} {base : Heap}
local macro_rules | `(tactic| walk_at "un") => `(tactic| try dsimp only [tSeq, tIfS, tRet, tAsg, tDrop, tOr, tAnd, tNot, tAndV, tOrV, tNotV, tTest, tB, tOp, tUn, tCB, tCons, tNil, tC, tNext, tIf, tChain, gName, tPar, tPar3, tTup, tLst])
/-- the mark of a number -/
def spMarkAt (K : PySem.W.Frag) : Sp := fun vs H Q _ => ∃ (h : Hill) (a : Nat) (x : Int) (ms : List Hill.Mk) (ag : Option Nat) (wv : V) (i : Nat), vs = [wv, .int i] ∧ HillOk h ∧ a < h.needs.length ∧ h.Way a x ms ag ∧ ms.length ≤ 1000 ∧ Dp K H wv (wayD ms ag) ∧ i ≤ 1000 ∧
  (∀ H', ag = none → ms.length ≤ i → Ex [] H H' → Q .non H') ∧ ∀ m mv H', h.MarkN ⟨0, a, x⟩ i m → Dp K H' mv (markD m) → Ex [] H H' → Q mv H'
theorem ok_mark_at (T : Txt K mg) : FnOk P w K mg base CX0 2 T.a_mark_at T.d_mark_at P_mark_at (spMarkAt K) := by
  have nd := sc_mark_at.nd
  have G_round_of := ok_round_of (P := P) (w := w) (base := base) T
  refine T.F_mark_at.ok sc_mark_at (fun vs H Q E h => ?_) (fun cdv A outer s H vs Q E hr h => ?_)
  · obtain ⟨h, a, x, ms, ag, wv, i, rfl, _⟩ := h
    rfl
  · obtain ⟨h, a, x, ms, ag, wv, i, rfl, hk, ha, W, lm, hW, hi, qn, q⟩ := h
    have hr_round_of := hr
    have len0 : 0 < ms.length := (List.getElem?_eq_some_iff.mp W.fst).1
    refine ⟨_, (pss_cons (ps_asg (pv 0) (pg_seqK K 2 (by rfl) (pgs_cons (pg_name (i := 2) nd rfl (Or.inl rfl)) (pgs_cons (pg_name (i := 3) nd rfl (Or.inl rfl)) pgs_nil))))
      (pss_cons (ps_if (pt_cmpR op_lt (pv 1) (pe_callB (lenK K) (by rfl) T.z_len (by decide +kernel) (pa_cons (pv 2) pa_nil)) (nomark _)) (pss_one (ps_ret (pe_ix (ixK K) (pv 2) (pv 1) (fun _ _ => rfl)))) pss_nil)
      (pss_cons (ps_if (pt_cmpR op_isN (pv 3) pe_non (nomark _)) (pss_one (ps_ret pe_non)) pss_nil)
      (pss_cons (ps_asg (pe_callB call_divmodW (by rfl) T.z_divmod (by decide +kernel) (pa_cons (pe_op op_sub (pv 1) (pv 3)) (pa_cons (pe_op op_sub (pe_op op_sub (pe_callB (lenK K) (by rfl) T.z_len (by decide +kernel) (pa_cons (pv 2) pa_nil)) pe_int) (pv 3)) pa_nil))) (pg_tupK K 2 (by rfl) (pgs_cons (pg_name (i := 4) nd rfl (Or.inl rfl)) (pgs_cons (pg_name (i := 5) nd rfl (Or.inl rfl)) pgs_nil))))
      (pss_cons (ps_asg (pe_call G_round_of hr_round_of (by rfl) T.m_round_of T.k_round_of T.b_round_of .nil pass0 (pa_cons (pv 0) pa_nil)) (pg_tupK K 2 (by rfl) (pgs_cons (pg_name (i := 6) nd rfl (Or.inl rfl)) (pgs_cons (pg_name (i := 7) nd rfl (Or.inl rfl)) pgs_nil))))
      (pss_cons (ps_asg (pe_ix (ixK K) (pv 2) (pe_op op_add (pv 3) (pv 5)) (fun _ _ => rfl)) (pg_tupK K 3 (by rfl) (pgs_cons (pg_name (i := 8) nd rfl (Or.inl rfl)) (pgs_cons (pg_name (i := 9) nd rfl (Or.inl rfl)) (pgs_cons (pg_name (i := 10) nd rfl (Or.inl rfl)) pgs_nil)))))
      (pss_one (ps_ret (pe_tup (pa_cons (pe_op op_add (pv 8) (pe_op op_mul (pv 4) (pv 6))) (pa_cons (pv 9) (pa_cons (pe_op op_add (pv 10) (pe_op op_mul (pv 4) (pv 7))) pa_nil)))))))))))), ?_⟩
    obtain ⟨q0, mv, av, rfl, hS, hM, hAg⟩ := way_parts hW
    obtain ⟨M, us, rfl, hMS, lu, hMA, hat⟩ := marks_at hM
    walk_at "un"
    refine ⟨_, rfl, z_gSq (t := true) hS rfl ⟨_, _, rfl, _, _, rfl, rfl, ?_⟩⟩
    walk_at "un"
    refine ⟨_, rfl, _, rfl, M, us, rfl, .inl hMS, _, _, rfl, rfl, _, rfl, ite2 (fun c => ?_) (fun c => ?_)⟩
    · have c' : (i : Int) < (us.length : Nat) := of_decide_eq_true c
      obtain ⟨m, em⟩ : ∃ m, ms[i]? = some m := ⟨_, List.getElem?_eq_getElem (by omega)⟩
      obtain ⟨u, hu, huD⟩ := hat em
      exact ⟨_, rfl, _, rfl, z_ix (.inl hMS) (atI_nat hu) (q m u H (W.markN em) huD (Ex.refl _ _))⟩
    · have c' : ¬ (i : Int) < (us.length : Nat) := of_decide_eq_false (Bool.eq_false_iff.mpr c)
      cases ag with
      | none =>
        cases hAg
        exact ⟨_, rfl, rfl, _, rfl, iteT (qn H rfl (by omega) (Ex.refl _ _))⟩
      | some j =>
        cases hAg
        obtain ⟨lj, mj, ml, ej, el, ea, k, ey⟩ := W.rep rfl
        refine ⟨_, rfl, rfl, _, rfl, iteF ?_⟩
        refine ⟨_, rfl, _, rfl, _, _, rfl, rfl, _, rfl, M, us, rfl, .inl hMS, _, _, rfl, rfl, _, rfl, _, _, rfl, rfl, ?_⟩
        have t60 : (10 : Int) ^ 60 = 1000000000000000000000000000000000000000000000000000000000000 := by decide
        dsimp only
        rw [show (i : Int) - (j : Nat) = ((i - j : Nat) : Int) by omega, show (us.length : Int) - 1 - (j : Nat) = ((ms.length - 1 - j : Nat) : Int) by omega]
        refine ⟨_, _, rfl, divp_of (by omega) (by omega), fun p hp => ?_⟩
        have x1 := Ex.new (B := []) (o := .tup [.int (((i - j : Nat) : Int) / ((ms.length - 1 - j : Nat) : Int)), .int (((i - j : Nat) : Int) % ((ms.length - 1 - j : Nat) : Int))]) hp
        refine ⟨p, _, rfl, SqT.of upd_same, rfl, _, _, rfl, _, _, rfl, rfl, ?_⟩
        revert x1
        generalize upd H p (.tup [.int (((i - j : Nat) : Int) / ((ms.length - 1 - j : Nat) : Int)), .int (((i - j : Nat) : Int) % ((ms.length - 1 - j : Nat) : Int))]) = H1
        intro x1
        refine ⟨_, rfl, ms, j, .ref q0, mj, ml, rfl, dp_le x1.le0 _ _ hW, ej, el, fun p2 H2 hp2 hp0 x2 => ?_⟩
        have x12 := x1.trans x2
        refine ⟨p2, _, rfl, SqT.of hp2, rfl, _, _, rfl, _, _, rfl, rfl, ?_⟩
        obtain ⟨m, em, Mk⟩ := W.markR hk.L0 hk.nn hk.op hk.dr rfl ej el i (by omega)
        obtain ⟨u, hu, huD⟩ := hat em
        have tl := W.lt ha ej el (by omega)
        obtain ⟨mq, rfl, hmS⟩ := mark_dp (m := m) (dp_le x12.le0 _ _ huD)
        have em2 : (j : Int) + ((i - j : Nat) : Int) % ((ms.length - 1 - j : Nat) : Int) = ((j + (i - j) % (ms.length - 1 - j) : Nat) : Int) := by rw [Int.natCast_add, Int.natCast_emod]
        refine ⟨_, rfl, _, rfl, _, rfl, _, _, rfl, rfl, ?_⟩
        refine z_ix (.inl (le_l x12.le0 hMS)) (by rw [em2]; exact atI_nat hu) ⟨mq, _, rfl, hmS, rfl, _, _, rfl, _, _, rfl, _, _, rfl, rfl, ?_⟩
        have rb : (i - j) / (ms.length - 1 - j) ≤ 1000 := Nat.le_trans (Nat.div_le_self _ _) (by omega)
        have eR : ((i - j : Nat) : Int) / ((ms.length - 1 - j : Nat) : Int) = (((i - j) / (ms.length - 1 - j) : Nat) : Int) := (Int.natCast_ediv ..).symm
        have hb : -(2 ^ 64) < (((i - j) / (ms.length - 1 - j) : Nat) : Int) ∧ (((i - j) / (ms.length - 1 - j) : Nat) : Int) < 2 ^ 64 := ⟨Int.lt_of_lt_of_le (by decide) (Int.natCast_nonneg _), Int.lt_of_le_of_lt (Int.ofNat_le.mpr rb) (by decide)⟩
        rw [eR]
        refine ⟨_, rfl, _, rfl, _, rfl, _, _, rfl, rfl, .inl hb, _, _, rfl, rfl, ?_⟩
        refine ⟨_, rfl, _, rfl, _, rfl, _, rfl, _, _, rfl, rfl, .inl hb, _, _, rfl, rfl, show 3 ≤ sizeLine by decide, fun pz hpz => ?_⟩
        have x3 := x12.trans (Ex.new (B := []) (o := .tup [.int ((m.t : Int) + (((i - j) / (ms.length - 1 - j) : Nat) : Int) * ((ml.t : Int) - mj.t)), .int m.a, .int (m.y + (((i - j) / (ms.length - 1 - j) : Nat) : Int) * (ml.y - mj.y))]) hpz)
        refine q _ _ _ Mk ?_ x3
        refine .tup (xs := [.int ((m.t + (i - j) / (ms.length - 1 - j) * (ml.t - mj.t) : Nat) : Int), .int (m.a : Int), .int (m.y + (((i - j) / (ms.length - 1 - j) : Nat) : Int) * (ml.y - mj.y))]) (SqT.of ?_) (dpa_of_ints [((m.t + (i - j) / (ms.length - 1 - j) * (ml.t - mj.t) : Nat) : Int), (m.a : Int), m.y + (((i - j) / (ms.length - 1 - j) : Nat) : Int) * (ml.y - mj.y)])
        rw [upd_same, Int.natCast_add, Int.natCast_mul, Int.natCast_sub (Nat.le_of_lt tl)]
def lossD (q : Nat × Now × Int) : PyData := .tuple [.int q.1, q.2.1.dat true, .int q.2.2]
/-- losses, one behind the other -/
def spLosses (K : PySem.W.Frag) : Sp := fun vs H Q _ => ∃ (t t2 : Bool) (h : Hill) (s : Now) (n : Nat) (v u : V), vs = [v, u, .int n] ∧ Dp K H v (h.dat t) ∧ HillOk h ∧ Dp K H u (s.dat t2) ∧ s.ant < h.needs.length ∧ n ≤ 500 ∧
  ∀ L ms p us H', h.LossL s.day ⟨0, s.ant, lineAt h s⟩ L ms → h.Enough n L ms → H p = none → H' p = some (.lst us) → (∀ B : List Addr, (∀ b ∈ B, H b ≠ none) → DpAll K (wo (p :: B) H') us (L.map lossD)) → Ex [] H H' → Q (.ref p) H'
theorem ok_losses (T : Txt K mg) : FnOk P w K mg base CX0 7 T.a_losses T.d_losses P_losses (spLosses K) := by
  have nd := sc_losses.nd
  have G_line_of := ok_line_of (P := P) (w := w) (base := base) T
  have G_way_of := ok_way_of (P := P) (w := w) (base := base) T
  have G_mark_at := ok_mark_at (P := P) (w := w) (base := base) T
  have G_told_loss := ok_told_loss (P := P) (w := w) (base := base) T
  refine T.F_losses.ok sc_losses (fun vs H Q E h => ?_) (fun cdv A outer s H vs Q E hr h => ?_)
  · obtain ⟨t, t2, h, s, n, v, u, rfl, _⟩ := h
    rfl
  · obtain ⟨t, t2, h, st, n, v, u, rfl, hD, hk, hS, ha, hn, q⟩ := h
    have hr_line_of := hr.mono (show 3 ≤ 6 by decide)
    have hr_way_of := hr
    have hr_mark_at := hr.mono (show 2 ≤ 6 by decide)
    have hr_told_loss := hr.mono (show 4 ≤ 6 by decide)
    refine ⟨_, (pss_cons (ps_set (i := 3) nd rfl (Or.inl rfl) (pe_call G_way_of hr_way_of (by rfl) T.m_way_of T.k_way_of T.b_way_of .nil pass0 (pa_cons (pv 0) (pa_cons (pe_ix (ixK K) (pv 1) pe_int (fun _ _ => rfl)) (pa_cons (pe_call G_line_of hr_line_of (by rfl) T.m_line_of T.k_line_of T.b_line_of .nil pass0 (pa_cons (pv 0) (pa_cons (pv 1) pa_nil))) pa_nil)))))
      (pss_cons (ps_set (i := 4) nd rfl (Or.inl rfl) (pe_lst pa_nil))
      (pss_cons (ps_set (i := 5) nd rfl (Or.inl rfl) (pe_call G_mark_at hr_mark_at (by rfl) T.m_mark_at T.k_mark_at T.b_mark_at .nil pass0 (pa_cons (pv 3) (pa_cons pe_int pa_nil))))
      (pss_cons (ps_for PassesOwn.never rfl (pi_range2W (by rfl) T.z_range (pa_cons pe_int (pa_cons (pe_op op_add (pv 2) pe_int) pa_nil))) (pg_name (i := 6) nd rfl (Or.inl rfl)) (pss_cons (ps_set (i := 7) nd rfl (Or.inl rfl) (pe_call G_mark_at hr_mark_at (by rfl) T.m_mark_at T.k_mark_at T.b_mark_at .nil pass0 (pa_cons (pv 3) (pa_cons (pv 6) pa_nil))))
      (pss_cons (ps_if (pt_cmpR op_isN (pv 7) pe_non (nomark _)) (pss_one ps_break) pss_nil)
      (pss_cons (ps_expr (pe_bm PySem.F.plainAttrs_list PySem.F.slot_list_append PySem.F.type_list_append mt_append (pv 4) (pa_cons (pe_call G_told_loss hr_told_loss (by rfl) T.m_told_loss T.k_told_loss T.b_told_loss .nil pass0 (pa_cons (pv 0) (pa_cons (pe_ix (ixK K) (pv 1) pe_int (fun _ _ => rfl)) (pa_cons (pv 5) (pa_cons (pv 7) pa_nil))))) pa_nil)))
      (pss_one (ps_set (i := 5) nd rfl (Or.inl rfl) (pv 7)))))))
      (pss_one (ps_ret (pv 4))))))), ?_⟩
    have est : L2.start N_losses [v, u, .int n] = [some v, some u, some (.int n), none, none, none, none, none] := rfl
    rw [est]
    clear est
    walk_at "un"
    refine ⟨_, rfl, _, rfl, z_ixD hS (Le.refl _) (j := 1) rfl rfl fun d hd => ?_⟩
    obtain rfl := dp_int hd
    refine ⟨_, rfl, _, rfl, t, t2, h, st, v, u, rfl, hD, hk, hS, fun H1 x1 => ?_⟩
    refine ⟨t, h, v, st.ant, _, rfl, dp_le x1.le0 _ _ hD, hk, ha, fun ws ag wv H2 W lm hW x2 => ?_⟩
    refine ⟨Nat.zero_le _, fun p hp => ?_⟩
    have x3 := (x1.trans x2).trans (Ex.new (B := []) (o := .lst []) hp)
    have p0 : H p = none := (x1.trans x2).free hp
    have hW3 := dp_le (Ex.new (B := []) (o := .lst []) hp).le0 _ _ hW
    have hp3 : upd H2 p (.lst []) p = some (.lst []) := upd_same
    have x23 := Ex.new (B := []) (o := .lst []) hp
    revert x3 hW3 hp3 x23
    generalize upd H2 p (.lst []) = H3
    intro x3 hW3 hp3 x23
    refine ⟨_, rfl, h, st.ant, lineAt h st, ws, ag, wv, 0, rfl, hk, ha, W, lm, hW3, by omega, fun H4 _ z _ => absurd (List.getElem?_eq_some_iff.mp W.fst).1 (by omega), fun m0 mv0 H4 M0 hm0 x4 => ?_⟩
    cases M0
    try simp only [List.set_cons_zero, List.set_cons_succ]
    have x34 := x3.trans x4
    have hp4 := x4.get (by simp) hp3
    have hmw : ∀ {G : Hp} {mv : V} {m : Hill.Mk} {ys : List V}, G p = some (.lst ys) → Dp K G mv (markD m) → Dp K (wo [p] G) mv (markD m) := fun {G mv m ys} hg hd => by
      obtain ⟨q1, rfl, hq⟩ := mark_dp hd
      exact .tup (sqt_wo hg hq) (dpa_of_ints [(m.t : Int), (m.a : Int), m.y])
    refine ⟨_, rfl, _, _, rfl, rfl, _, _, rfl, ?_⟩
    rw [show ((n : Int) + 1 - 1).toNat = n by omega]
    have fin : ∀ {L : List (Nat × Now × Int)} {ms : List Hill.Mk} {us : List V} {G : Hp} {σ : L2.St}, h.LossL st.day ⟨0, st.ant, lineAt h st⟩ L ms → h.Enough n L ms → G p = some (.lst us) → (∀ B : List Addr, (∀ b ∈ B, H b ≠ none) → DpAll K (wo (p :: B) G) us (L.map lossD)) → Ex [] H G → σ[4]? = some (some (.ref p)) → tRet (tVar 4) { nx := fun x H' => Q V.non H', rt := Q } σ G := fun a1 a2 a3 a4 a5 a6 => ⟨_, a6, q _ _ p _ _ a1 a2 p0 a3 a4 a5⟩
    refine for_range (lo := 1) (n := n) (fun i σ H' => ∃ (L : List (Nat × Now × Int)) (ms : List Hill.Mk) (us : List V) (mv : V) (m : Hill.Mk) (u6 u7 : Option V), σ = [some v, some u, some (.int n), some wv, some (.ref p), some mv, u6, u7] ∧ L.length = i ∧ h.LossL st.day ⟨0, st.ant, lineAt h st⟩ L ms ∧ ms[i]? = some m ∧ h.MarkN ⟨0, st.ant, lineAt h st⟩ i m ∧ Dp K (wo [p] H') mv (markD m) ∧ H' p = some (.lst us) ∧ us.length = i ∧ (∀ B : List Addr, (∀ b ∈ B, H b ≠ none) → DpAll K (wo (p :: B) H') us (L.map lossD)) ∧ Ex [] H2 H' ∧ Ex [] H H')
      ⟨[], [⟨0, st.ant, lineAt h st⟩], [], mv0, _, _, _, rfl, rfl, Hill.LossL.nil _ _ _, rfl, .zero, hmw hp4 hm0, hp4, rfl, fun _ _ => .nil, ?_, x34⟩ (fun i σ H' hi hP => ?_) (fun σ H' hP => ?_)
    · exact x23.trans x4
    · obtain ⟨L, ms, us, mv, m, u6, u7, rfl, lL, hL, em, hM, hmv, hpl, lus, hU, x2', x'⟩ := hP
      try dsimp only [gName]
      try simp only [List.set_cons_zero, List.set_cons_succ]
      walk_at "un"
      refine ⟨_, rfl, _, rfl, h, st.ant, lineAt h st, ws, ag, wv, 1 + i, by rw [Int.natCast_add]; rfl, hk, ha, W, lm, dp_le x2'.le0 _ _ hW, by omega, fun H5 ea le x5 => ?_, fun m' mv' H5 hM' hmv' x5 => ?_⟩
      · refine ⟨_, rfl, rfl, _, rfl, iteT ?_⟩
        refine fin hL (.inr ⟨by omega, m, by rw [lL]; exact em, ?_⟩) (x5.get (by simp) hpl) (fun B hB => dpa_le (Ex.nil x5).wo _ _ (hU B hB)) (x'.trans x5) rfl
        subst ea
        have e := W.markNo hM
        have l := (List.getElem?_eq_some_iff.mp e).1
        exact W.fin rfl (by rw [show ws.length - 1 = i by omega]; exact e)
      · obtain ⟨qm, rfl, hqm⟩ := mark_dp hmv'
        rw [Nat.add_comm] at hM'
        have nx : h.Nx m m' := by
          cases hM' with
          | succ M2 nx2 => rw [Hill.markN_uniq hM M2]; exact nx2
        obtain ⟨nn, Lt, em'⟩ := nx
        have nx : h.Nx m m' := ⟨nn, Lt, em'⟩
        have tle : m.t ≤ m'.t := by rw [em']; exact Nat.le_add_right _ _
        refine ⟨_, rfl, rfl, _, rfl, ?_⟩
        rw [decide_eq_false (show ¬ V.ref qm = V.non by intro z; cases z)]
        refine iteF ?_
        have hp5 := x5.get (by simp) hpl
        have x25 := x2'.trans x5
        have x05 := x'.trans x5
        refine ⟨_, rfl, .inl ⟨rfl, us, SqL.of hp5⟩, _, rfl, _, rfl, z_ixD (dp_le x05.le0 _ _ hS) (Le.refl _) (j := 0) rfl rfl fun d hd => ?_⟩
        obtain rfl := dp_int hd
        refine ⟨_, rfl, _, rfl, t, h, v, st.day, m, m', mv, .ref qm, rfl, dp_le x05.le0 _ _ hD, hk, dp_le x5.le0 _ _ (dp_le (wo_le _ _) _ _ hmv), .tup hqm (dpa_of_ints [(m'.t : Int), (m'.a : Int), m'.y]), tle, fun ev pz r H6 he hF hr0 hr6 x6 => ?_⟩
        have hp6 := x6.get (by simp) hp5
        refine ⟨p, us, .ref r, rfl, rfl, hp6, sz_lt (by omega), ?_⟩
        have nrp : r ≠ p := fun z => by rw [z, hp5] at hr0; cases hr0
        have y7 : ∀ B : List Addr, Ex (p :: B) H6 (upd H6 p (.lst (us ++ [.ref r]))) := fun B => Ex.mut (by simp)
        have x27 : Ex [] H2 (upd H6 p (.lst (us ++ [.ref r]))) := (x25.trans x6).mutNew' hp
        have x07 : Ex [] H (upd H6 p (.lst (us ++ [.ref r]))) := (x05.trans x6).mutNew' p0
        refine ⟨_, rfl, L ++ [(m'.t, h.nowM m' ev, h.lossM m m')], ms ++ [m'], us ++ [.ref r], .ref qm, m', _, _, rfl, by rw [List.length_append, List.length_singleton, lL], hL.snoc (by rw [lL]; exact em) nx (fun ev' he' => by rw [Hill.ev_uniq he' he]), ?_, hM', ?_, upd_same, by rw [List.length_append, List.length_singleton, lus], fun B hB => ?_, x27, x07⟩
        · have := hL.len
          rw [List.getElem?_append_right (by omega), show i + 1 - ms.length = 0 by omega]
          rfl
        · exact .tup (le_t (y7 []).wo (sqt_wo hp6 (le_t x6.le0 hqm))) (dpa_of_ints [(m'.t : Int), (m'.a : Int), m'.y])
        · rw [List.map_append]
          refine dpa_snoc (dpa_le ((Ex.nil (x5.trans x6)).trans (y7 B)).wo _ _ (hU B hB)) ?_
          have hB5 : ∀ b ∈ p :: B, H5 b ≠ none := fun b hb z => by
            rcases List.mem_cons.mp hb with e | e
            · rw [e, hp5] at z; cases z
            · exact hB b e (x05.free z)
          have hrB : r ∉ p :: B := fun z => hB5 r z hr0
          exact .tup (SqT.of (wo_of hrB (by rw [upd_ne nrp]; exact hr6))) (.cons (.int _) (.cons (dp_le (y7 B).wo _ _ (hF (p :: B) hB5)) (.cons (.int _) .nil)))
    · obtain ⟨L, ms, us, mv, m, u6, u7, rfl, lL, hL, em, hM, hmv, hpl, lus, hU, x2', x'⟩ := hP
      exact fin hL (.inl lL) hpl hU x' rfl
end
end Z64
set_option Elab.async false
set_option linter.all false
namespace Hz
theorem pw_apart {l : List (Int × Int)} (u : l.Pairwise (fun p q => p.2 + 1 < q.1)) {p q : Int × Int} (hp : p ∈ l) (hq : q ∈ l) : p = q ∨ p.2 + 1 < q.1 ∨ q.2 + 1 < p.1 := by
  induction l with
  | nil => cases hp
  | cons a l ih =>
    obtain ⟨h1, h2⟩ := List.pairwise_cons.mp u
    rcases List.mem_cons.mp hp with e1 | hp1
    · rcases List.mem_cons.mp hq with e2 | hq1
      · exact .inl (e1.trans e2.symm)
      · rw [e1]; exact .inr (.inl (h1 q hq1))
    · rcases List.mem_cons.mp hq with e2 | hq1
      · rw [e2]; exact .inr (.inr (h1 p hp1))
      · exact ih h2 hp1 hq1
theorem Gaps.edge {g : Int} {C : Int → Prop} {l : List (Int × Int)} (h : Gaps g C l) {p : Int × Int} (hp : p ∈ l) : ¬ Cov l (p.1 - 1) ∧ ¬ Cov l (p.2 + 1) := by
  have hi := h.in_ p hp
  constructor
  · rintro ⟨q, hq, h1, h2⟩
    have := h.in_ q hq
    rcases pw_apart h.up hp hq with rfl | z | z <;> omega
  · rintro ⟨q, hq, h1, h2⟩
    have := h.in_ q hq
    rcases pw_apart h.up hp hq with rfl | z | z <;> omega
theorem Gaps.sub {g : Int} {C : Int → Prop} {l l' : List (Int × Int)} (h : Gaps g C l) (h' : Gaps g C l') {p : Int × Int} (hp : p ∈ l) : p ∈ l' := by
  have hi := h.in_ p hp
  have tr : ∀ x, 0 ≤ x → x < g → (Cov l x ↔ Cov l' x) := fun x a b => (h.eq x a b).trans (h'.eq x a b).symm
  obtain ⟨q, hq, h1, h2⟩ := (tr p.1 (by omega) (by omega)).mp ⟨p, hp, Int.le_refl _, hi.2.1⟩
  have qi := h'.in_ q hq
  have e1 : q.1 = p.1 := by
    refine Classical.byContradiction fun z => ?_
    exact (h.edge hp).1 ((tr (p.1 - 1) (by omega) (by omega)).mpr ⟨q, hq, by omega, by omega⟩)
  have e2 : q.2 = p.2 := by
    rcases Int.lt_trichotomy q.2 p.2 with c | c | c
    · exact ((h'.edge hq).2 ((tr (q.2 + 1) (by omega) (by omega)).mp ⟨p, hp, by omega, by omega⟩)).elim
    · exact c
    · exact ((h.edge hp).2 ((tr (p.2 + 1) (by omega) (by omega)).mpr ⟨q, hq, by omega, by omega⟩)).elim
  have : q = p := Prod.ext e1 e2
  rwa [this] at hq
theorem pairs_uniq : ∀ {l l' : List (Int × Int)}, l.Pairwise (fun p q => p.2 + 1 < q.1) → l'.Pairwise (fun p q => p.2 + 1 < q.1) → (∀ p, p ∈ l → p.1 ≤ p.2) → (∀ p, p ∈ l ↔ p ∈ l') → l = l'
  | [], [], _, _, _, _ => rfl
  | [], a :: l', _, _, _, e => absurd ((e a).mpr (by simp)) (by simp)
  | a :: l, [], _, _, _, e => absurd ((e a).mp (by simp)) (by simp)
  | a :: l, b :: l', p, q, o, e => by
    obtain ⟨p1, p2⟩ := List.pairwise_cons.mp p
    obtain ⟨q1, q2⟩ := List.pairwise_cons.mp q
    have oa := o a (by simp)
    have ob := o b ((e b).mpr (by simp))
    have ab : a = b := by
      rcases List.mem_cons.mp ((e a).mp (by simp)) with h | h
      · exact h
      · rcases List.mem_cons.mp ((e b).mpr (by simp)) with h' | h'
        · exact h'.symm
        · have := q1 a h
          have := p1 b h'
          omega
    subst ab
    congr 1
    refine pairs_uniq p2 q2 (fun x hx => o x (List.mem_cons_of_mem _ hx)) fun x => ⟨fun hx => ?_, fun hx => ?_⟩
    · rcases List.mem_cons.mp ((e x).mp (List.mem_cons_of_mem _ hx)) with h | h
      · have := p1 x hx
        rw [h] at this
        omega
      · exact h
    · rcases List.mem_cons.mp ((e x).mpr (List.mem_cons_of_mem _ hx)) with h | h
      · have := q1 x hx
        rw [h] at this
        omega
      · exact h
theorem Gaps.uniq {g : Int} {C : Int → Prop} {l l' : List (Int × Int)} (h : Gaps g C l) (h' : Gaps g C l') : l = l' :=
  pairs_uniq h.up h'.up (fun p hp => (h.in_ p hp).2.1) fun p => ⟨h.sub h', h'.sub h⟩
/-- runs of truths so far -/
structure Runs (bs : List Bool) (j : Nat) (l : List (Int × Int)) : Prop where
  up : l.Pairwise (fun p q => p.2 + 1 < q.1)
  in_ : ∀ p, p ∈ l → 0 ≤ p.1 ∧ p.1 ≤ p.2 ∧ p.2 < j
  eq : ∀ x : Nat, x < j → (Cov l x ↔ bs[x]? = some true)
theorem Runs.zero (bs : List Bool) : Runs bs 0 [] := ⟨.nil, fun p hp => by simp at hp, fun x z => absurd z (Nat.not_lt_zero _)⟩
theorem Runs.off {bs : List Bool} {j : Nat} {l : List (Int × Int)} (r : Runs bs j l) (h : bs[j]? = some false) : Runs bs (j + 1) l where
  up := r.up
  in_ := fun p hp => by have := r.in_ p hp; omega
  eq := fun x xj => by
    rcases Nat.lt_or_ge x j with c | c
    · exact r.eq x c
    · obtain rfl : x = j := by omega
      rw [h]
      constructor
      · rintro ⟨p, hp, h1, h2⟩
        have := r.in_ p hp
        omega
      · intro z; cases z
theorem Runs.new {bs : List Bool} {j : Nat} {l : List (Int × Int)} (r : Runs bs j l) (h : bs[j]? = some true) (b : j = 0 ∨ bs[j - 1]? = some false) : Runs bs (j + 1) (l ++ [((j : Int), (j : Int))]) where
  up := pw_snoc r.up fun p hp => by
    have i := r.in_ p hp
    show p.2 + 1 < (j : Int)
    rcases b with b | b
    · omega
    · refine Classical.byContradiction fun z => ?_
      have := (r.eq (j - 1) (by omega)).mp ⟨p, hp, by omega, by omega⟩
      rw [b] at this
      cases this
  in_ := fun p hp => by
    rcases List.mem_append.mp hp with z | z
    · have := r.in_ p z; omega
    · rw [List.mem_singleton.mp z]; dsimp only; omega
  eq := fun x xj => by
    rw [cov_snoc]
    dsimp only
    rcases Nat.lt_or_ge x j with c | c
    · rw [← r.eq x c]
      exact ⟨fun z => z.elim id fun z => by omega, .inl⟩
    · obtain rfl : x = j := by omega
      exact ⟨fun _ => h, fun _ => .inr ⟨Int.le_refl _, Int.le_refl _⟩⟩
theorem Runs.grow {bs : List Bool} {j : Nat} {l : List (Int × Int)} (r : Runs bs j l) (h : bs[j]? = some true) (j0 : 0 < j) (b : bs[j - 1]? = some true) : ∃ l0 c, l = l0 ++ [(c, ((j - 1 : Nat) : Int))] ∧ Runs bs (j + 1) (l0 ++ [(c, (j : Int))]) := by
  obtain ⟨p, hp, h1, h2⟩ := (r.eq (j - 1) (by omega)).mpr b
  have pi := r.in_ p hp
  have e2 : p.2 = ((j - 1 : Nat) : Int) := by omega
  rcases List.eq_nil_or_concat l with rfl | ⟨l0, q, rfl⟩
  · cases hp
  · have qm : q ∈ l0.concat q := by rw [List.concat_eq_append]; simp
    have qi := r.in_ q qm
    have epq : p = q := by
      rw [List.concat_eq_append] at hp
      rcases List.mem_append.mp hp with z | z
      · have up := r.up
        rw [List.concat_eq_append, List.pairwise_append] at up
        have := up.2.2 p z q (by simp)
        omega
      · exact List.mem_singleton.mp z
    subst epq
    have ep : p = (p.1, ((j - 1 : Nat) : Int)) := Prod.ext rfl e2
    refine ⟨l0, p.1, by rw [List.concat_eq_append, ← ep], ?_⟩
    have up := r.up
    rw [List.concat_eq_append, List.pairwise_append] at up
    have in0 : ∀ q, q ∈ l0 → 0 ≤ q.1 ∧ q.1 ≤ q.2 ∧ q.2 < j := fun q hq => r.in_ q (by rw [List.concat_eq_append]; exact List.mem_append_left _ hq)
    refine ⟨pw_snoc up.1 fun q hq => by have := up.2.2 q hq p (by simp); exact this, fun q hq => ?_, fun x xj => ?_⟩
    · rcases List.mem_append.mp hq with z | z
      · have := in0 q z; omega
      · rw [List.mem_singleton.mp z]; dsimp only; omega
    · rw [cov_snoc]
      dsimp only
      rcases Nat.lt_or_ge x j with c | c
      · rw [← r.eq x c, List.concat_eq_append, cov_snoc]
        constructor
        · rintro (z | z)
          · exact .inl z
          · exact .inr (by omega)
        · rintro (z | z)
          · exact .inl z
          · exact .inr (by omega)
      · obtain rfl : x = j := by omega
        exact ⟨fun _ => h, fun _ => .inr (by omega)⟩
theorem Runs.gaps {bs : List Bool} {l : List (Int × Int)} (r : Runs bs bs.length l) : Gaps (bs.length : Nat) (fun x => bs[x.toNat]? ≠ some true) l where
  up := r.up
  in_ := r.in_
  eq := fun x x0 xg => by
    have := r.eq x.toNat (by omega)
    rw [Int.toNat_of_nonneg x0] at this
    rw [this]
    exact ⟨fun z n => n z, fun z => Classical.byContradiction z⟩
end Hz
set_option Elab.async false
set_option linter.all false
set_option maxRecDepth 100000
set_option maxHeartbeats 4000000
namespace Z64
open PySem PySem.Spec PyProof.Rows L2 Hz
section
variable {P : Program} {w : World} {K : PySem.W.Frag} {mg : Str → Option Value} {base : Heap}
local macro_rules | `(tactic| walk_at "un") => `(tactic| try dsimp only [tSeq, tIfS, tRet, tAsg, tDrop, tOr, tAnd, tNot, tAndV, tOrV, tNotV, tTest, tB, tOp, tUn, tCB, tCons, tNil, tC, tNext, tIf, tChain, gName, tPar, tPar3, tTup, tLst])
theorem gap_free {h : Hill} (hk : HillOk h) {a : Nat} {l : List (Int × Int)} (G : Gaps (gcdI h) (Lossy h a) l) {x : Int} (x0 : 0 ≤ x) (xg : x < gcdI h) : Cov l x ↔ ¬ Lossy h a x := G.eq x x0 xg
theorem lossy_off {h : Hill} (hk : HillOk h) {a : Nat} (x e : Int) : Lossy h a (x % gcdI h + e) ↔ Lossy h a (x + e) := by
  have em := Int.mul_ediv_add_emod x (gcdI h)
  rw [← lossy_move hk (x := x % gcdI h + e) (x / gcdI h), show x % gcdI h + e + x / gcdI h * gcdI h = x + e by rw [Int.mul_comm (x / gcdI h)]; omega]
def spLia (K : PySem.W.Frag) : Sp := fun vs H Q _ => ∃ (t t2 : Bool) (h : Hill) (s : Now) (v u : V), vs = [v, u] ∧ Dp K H v (h.dat t) ∧ HillOk h ∧ Dp K H u (s.dat t2) ∧ s.ant < h.needs.length ∧
  (∀ H', (∀ y, Lossy h s.ant y) → Ex [] H H' → Q .non H') ∧ ∀ d H', Dist h s.ant (lineAt h s) d → Ex [] H H' → Q (.int d) H'
theorem ok_lost_in_all (T : Txt K mg) : FnOk P w K mg base CX0 6 T.a_lost_in_all T.d_lost_in_all P_lost_in_all (spLia K) := by
  have nd := sc_lost_in_all.nd
  have G_sparing := ok_sparing (P := P) (w := w) (base := base) T
  have G_common := ok_common (P := P) (w := w) (base := base) T
  have G_line_of := ok_line_of (P := P) (w := w) (base := base) T
  refine T.F_lost_in_all.ok sc_lost_in_all (fun vs H Q E h => ?_) (fun cdv A outer s H vs Q E hr h => ?_)
  · obtain ⟨t, t2, h, s, v, u, rfl, _⟩ := h
    rfl
  · obtain ⟨t, t2, h, st, v, u, rfl, hD, hk, hS, ha, qn, q⟩ := h
    have hr_sparing := hr
    have hr_common := hr.mono (show 2 ≤ 5 by decide)
    have hr_line_of := hr.mono (show 3 ≤ 5 by decide)
    have g0 := gcd_pos hk
    refine ⟨_, (pss_cons (ps_set (i := 2) nd rfl (Or.inl rfl) (pe_call G_sparing hr_sparing (by rfl) T.m_sparing T.k_sparing T.b_sparing .nil pass0 (pa_cons (pv 0) (pa_cons (pe_ix (ixK K) (pv 1) pe_int (fun _ _ => rfl)) pa_nil))))
      (pss_cons (ps_if (pt_not (pt_truth (pv 2) (fun _ => rfl))) (pss_one (ps_ret pe_non)) pss_nil)
      (pss_cons (ps_set (i := 3) nd rfl (Or.inl rfl) (pe_call G_common hr_common (by rfl) T.m_common T.k_common T.b_common .nil pass0 (pa_cons (pv 0) pa_nil)))
      (pss_cons (ps_set (i := 4) nd rfl (Or.inl rfl) (pe_op op_mod (pe_call G_line_of hr_line_of (by rfl) T.m_line_of T.k_line_of T.b_line_of .nil pass0 (pa_cons (pv 0) (pa_cons (pv 1) pa_nil))) (pv 3)))
      (pss_cons (ps_for PassesOwn.never rfl (pi_seqK K (pv 2)) (pg_tupK K 2 (by rfl) (pgs_cons (pg_name (i := 5) nd rfl (Or.inl rfl)) (pgs_cons (pg_name (i := 6) nd rfl (Or.inl rfl)) pgs_nil))) (pss_one (ps_if (pt_cmpR op_le (pv 4) (pv 6) (nomark _)) (pss_one (ps_ret (pe_callB (call_max2 rfl) (by rfl) T.z_max (by decide +kernel) (pa_cons pe_int (pa_cons (pe_op op_sub (pv 5) (pv 4)) pa_nil))))) pss_nil)))
      (pss_one (ps_ret (pe_op op_sub (pe_op op_add (pe_ix (ixK K) (pe_ix (ixK K) (pv 2) pe_int (fun _ _ => rfl)) pe_int (fun _ _ => rfl)) (pv 3)) (pv 4))))))))), ?_⟩
    have est : L2.start N_lost_in_all [v, u] = [some v, some u, none, none, none, none, none] := rfl
    rw [est]
    clear est
    dsimp only [tSeq, tAsg, gName]
    refine ⟨_, rfl, _, rfl, z_ixD hS (Le.refl _) (j := 1) rfl rfl fun d hd => ?_⟩
    obtain rfl := dp_int hd
    refine ⟨t, h, v, st.ant, rfl, hD, hk, fun l p ws H1 hG ll hp hpw hW x1 => ?_⟩
    have W := dpa_le (wo_le _ _) _ _ (hW [] (by simp))
    have lw := dpa_len W
    rw [List.length_map] at lw
    dsimp only [List.set_cons_zero, List.set_cons_succ]
    walk_at "un"
    refine ⟨_, rfl, _, .inl ⟨ws, SqL.of hpw, rfl⟩, ?_⟩
    cases l with
    | nil =>
      have : ws = [] := List.length_eq_zero_iff.mp lw
      subst this
      refine iteT ?_
      refine qn H1 (fun y => ?_) x1
      rw [← lossy_mod hk]
      refine Classical.byContradiction fun z => ?_
      obtain ⟨p, hp, _⟩ := (gap_free hk hG (Int.emod_nonneg y (by omega)) (Int.emod_lt_of_pos y g0)).mpr z
      cases hp
    | cons q0 l' =>
      cases ws with
      | nil => simp at lw
      | cons w0 ws' =>
      refine iteF ?_
      refine ⟨_, rfl, t, h, v, rfl, dp_le x1.le0 _ _ hD, hk, fun H2 x2 => ?_⟩
      have x12 := x1.trans x2
      refine ⟨_, rfl, _, rfl, t, t2, h, st, v, u, rfl, dp_le x12.le0 _ _ hD, hk, dp_le x12.le0 _ _ hS, fun H3 x3 => ⟨_, rfl, _, _, rfl, rfl, g0, ?_⟩⟩
      have x13 := x12.trans x3
      have W3 := dpa_le (x2.trans x3).le0 _ _ W
      have hp3 := (x2.trans x3).get (by simp) hpw
      have e0 := Int.emod_nonneg (lineAt h st) (show gcdI h ≠ 0 by omega)
      have e1 := Int.emod_lt_of_pos (lineAt h st) g0
      dsimp only [List.set_cons_zero, List.set_cons_succ]
      obtain ⟨own, eo⟩ : ∃ own, own = lineAt h st % gcdI h := ⟨_, rfl⟩
      rw [← eo] at e0 e1 ⊢
      have tr : ∀ e, Lossy h st.ant (own + e) ↔ Lossy h st.ant (lineAt h st + e) := fun e => by rw [eo]; exact lossy_off hk _ _
      have in1 : ∀ x, 0 ≤ x → x < gcdI h → ¬ Lossy h st.ant x → ∃ p, p ∈ q0 :: l' ∧ p.1 ≤ x ∧ x ≤ p.2 := fun x a b z => (gap_free hk hG a b).mpr z
      refine Or.inl (z_forL fun Rf hRf => ⟨_, rfl, hRf _ _ ⟨p, w0 :: ws', fun j σ G => ∃ u5 u6 : Option V, σ = [some v, some u, some (.ref p), some (.int (gcdI h)), some (.int own), u5, u6] ∧ (∀ i q, i < j → (q0 :: l')[i]? = some q → q.2 < own) ∧ G = H3, rfl,
        ⟨_, _, rfl, fun i q z => absurd z (Nat.not_lt_zero _), rfl⟩, fun j σ' G _ ⟨_, _, _, _, e⟩ => by rw [e]; exact SqL.of hp3, fun j y σ' G hy hP => ?_, fun σ' G hP => ?_⟩⟩)
      · obtain ⟨u5, u6, rfl, dn, rfl⟩ := hP
        obtain ⟨d, hd, hDd⟩ := dpa_get' W3 hy
        rw [List.getElem?_map] at hd
        obtain ⟨qj, hqj, rfl⟩ := Option.map_eq_some_iff.mp hd
        obtain ⟨pa, qs, rfl, hSp, hqA⟩ := dp_sq (t := true) (ds := [.int qj.1, .int qj.2]) hDd
        cases hqA with | @cons v0 _ _ _ k1 hqA => cases hqA with | @cons v1 _ _ _ k2 hqA =>
        cases hqA
        obtain rfl := dp_int k1
        obtain rfl := dp_int k2
        refine ⟨pa, _, rfl, hSp, rfl, _, _, rfl, _, _, rfl, rfl, ?_⟩
        dsimp only [List.set_cons_zero, List.set_cons_succ]
        walk_at "un"
        refine ⟨_, rfl, _, rfl, _, _, rfl, rfl, _, rfl, ite2 (fun c => ?_) (fun c => ?_)⟩
        · have c' : own ≤ qj.2 := of_decide_eq_true c
          have qi := hG.in_ qj (List.mem_of_getElem? hqj)
          refine ⟨_, rfl, _, rfl, _, _, rfl, rfl, _, _, rfl, ?_⟩
          refine q _ _ ⟨by split <;> omega, fun z => ?_, fun e e0' e1' => ?_⟩ x13
          · rw [← tr] at z
            have x0' : own + (if qj.1 - own > 0 then qj.1 - own else 0) = max own qj.1 := by split <;> omega
            rw [x0'] at z
            exact ((gap_free hk hG (by omega) (by omega)).mp ⟨qj, List.mem_of_getElem? hqj, by omega, by omega⟩) z
          · rw [← tr]
            have e1'' : own + e < qj.1 := by split at e1' <;> omega
            refine Classical.byContradiction fun z => ?_
            obtain ⟨p', hp', h1, h2⟩ := in1 _ (by omega) (by omega) z
            obtain ⟨i, hi⟩ := List.mem_iff_getElem?.mp hp'
            rcases Nat.lt_trichotomy i j with c2 | c2 | c2
            · have := dn i p' c2 hi
              omega
            · subst c2
              rw [hqj] at hi
              cases hi
              omega
            · obtain ⟨l1, e1⟩ := List.getElem?_eq_some_iff.mp hqj
              obtain ⟨l2, e2⟩ := List.getElem?_eq_some_iff.mp hi
              have := List.pairwise_iff_getElem.mp hG.up j i l1 l2 c2
              rw [e1, e2] at this
              omega
        · have c' : ¬ own ≤ qj.2 := of_decide_eq_false (Bool.eq_false_iff.mpr c)
          refine ⟨_, _, rfl, fun i q il hi => ?_, rfl⟩
          rcases Nat.lt_or_ge i j with z | z
          · exact dn i q z hi
          · have : i = j := by omega
            rw [this, hqj] at hi
            cases hi
            omega
      · obtain ⟨u5, u6, rfl, dn, rfl⟩ := hP
        have q0i := hG.in_ q0 (by simp)
        obtain ⟨d0, hd0, h0⟩ := dpa_get' W3 (show (w0 :: ws')[0]? = some w0 from rfl)
        cases hd0
        obtain ⟨pa, qs, rfl, hSp, hqA⟩ := dp_sq (t := true) (ds := [.int q0.1, .int q0.2]) h0
        cases hqA with | @cons v0 _ _ _ k1 hqA => cases hqA with | @cons v1 _ _ _ k2 hqA =>
        cases hqA
        obtain rfl := dp_int k1
        obtain rfl := dp_int k2
        have at0 : atI (V.ref pa :: ws') 0 = some (.ref pa) := atI_nat (xs := V.ref pa :: ws') (show (V.ref pa :: ws')[0]? = some (.ref pa) from rfl)
        walk_at "un"
        refine ⟨_, rfl, z_ix (.inl (SqL.of hp3)) (i := 0) (v := .ref pa) at0 (z_ix (.inr hSp) (i := 0) (v := .int q0.1) rfl ⟨_, rfl, _, _, rfl, rfl, _, rfl, _, _, rfl, rfl, ?_⟩)⟩
        have all : ∀ p', p' ∈ q0 :: l' → p'.2 < own := fun p' hp' => by
          obtain ⟨i, hi⟩ := List.mem_iff_getElem?.mp hp'
          have := (List.getElem?_eq_some_iff.mp hi).1
          exact dn i p' (by rw [lw]; exact this) hi
        have first : ∀ p', p' ∈ q0 :: l' → q0.1 ≤ p'.1 := fun p' hp' => by
          rcases pw_apart hG.up (p := q0) (q := p') (by simp) hp' with e | e | e
          · rw [e]; exact Int.le_refl _
          · omega
          · have := (List.pairwise_cons.mp hG.up).1
            rcases List.mem_cons.mp hp' with z | z
            · rw [z]; exact Int.le_refl _
            · have := this p' z
              omega
        have al0 := all q0 (by simp)
        refine q _ _ ⟨by show 0 ≤ q0.1 + gcdI h - own; omega, fun z => ?_, fun e e0' e1' => ?_⟩ x13
        · have z : Lossy h st.ant (lineAt h st + (q0.1 + gcdI h - own)) := z
          rw [← tr, show own + (q0.1 + gcdI h - own) = q0.1 + 1 * gcdI h by omega, lossy_move hk] at z
          exact ((gap_free hk hG (by omega) (by omega)).mp ⟨q0, by simp, by omega, by omega⟩) z
        · have e1' : e < q0.1 + gcdI h - own := e1'
          rw [← tr]
          refine Classical.byContradiction fun z => ?_
          rcases Int.lt_or_le (own + e) (gcdI h) with c | c
          · obtain ⟨p', hp', h1, h2⟩ := in1 _ (by omega) c z
            have := all p' hp'
            omega
          · rw [show own + e = (own + e - gcdI h) + 1 * gcdI h by omega, lossy_move hk] at z
            obtain ⟨p', hp', h1, h2⟩ := in1 _ (by omega) (by omega) z
            have := first p' hp'
            omega
end
end Z64
set_option Elab.async false
set_option linter.all false
namespace Hz
namespace Hill
/-- the last open day up to that one -/
def Until (h : Hill) (n m : Nat) : Prop := m ≤ n ∧ h.isOpen m = true ∧ ∀ k, m < k → k ≤ n → h.isOpen k = false
theorem until_uniq {h : Hill} {n a b : Nat} (x : h.Until n a) (y : h.Until n b) : a = b := by
  rcases Nat.lt_trichotomy a b with c | c | c
  · have := x.2.2 b c y.1; rw [y.2.1] at this; cases this
  · exact c
  · have := y.2.2 a c x.1; rw [x.2.1] at this; cases this
theorem until_ge {h : Hill} {n m d : Nat} (x : h.Until n m) (l : d ≤ n) (o : h.isOpen d = true) : d ≤ m := by
  refine Nat.not_lt.mp fun c => ?_
  have := x.2.2 d c l
  rw [o] at this
  cases this
theorem until_ex {h : Hill} {d : Nat} (o : h.isOpen d = true) : ∀ n, d ≤ n → ∃ m, h.Until n m
  | 0, l => ⟨0, Nat.le_refl _, by rw [show (0 : Nat) = d by omega]; exact o, fun k a b => by omega⟩
  | n + 1, l => by
    cases c : h.isOpen (n + 1) with
    | true => exact ⟨n + 1, Nat.le_refl _, c, fun k a b => by omega⟩
    | false =>
      have dn : d ≤ n := by
        rcases Nat.lt_or_eq_of_le l with z | z
        · omega
        · rw [z, c] at o; cases o
      obtain ⟨m, m1, m2, m3⟩ := until_ex o n dn
      refine ⟨m, by omega, m2, fun k a b => ?_⟩
      by_cases e : k = n + 1
      · rw [e]; exact c
      · exact m3 k a (by omega)
theorem until_self {h : Hill} {n : Nat} (o : h.isOpen n = true) : h.Until n n := ⟨Nat.le_refl _, o, fun k a b => by omega⟩
section
variable {h : Hill} (hL : 0 < h.L) (hN : h.Nn) (ho : ∃ d, d ∈ h.year ∧ d.2 = true) (hd : 0 < h.drops)
include hL hN ho hd
theorem led_rise {a : Nat} (hn : ∀ m ∈ h.needs, 0 ≤ m) {x : Int} : ∀ n, h.ledN a x n ≤ h.ledN a x (n + 1) := fun n => by
  have l0 := lostZ_nn hL hN ho hd (h.ledN a x n + h.need ((a + n) % h.needs.length))
  have n0 : 0 ≤ h.need ((a + n) % h.needs.length) := by
    unfold need
    cases q : h.needs[(a + n) % h.needs.length]? with
    | none => exact Int.le_refl _
    | some v => exact hn v (List.mem_of_getElem? q)
  show h.ledN a x n ≤ h.ledZ _ _
  unfold ledZ
  omega
variable (hm : 0 ≤ h.most) (hn : ∀ m ∈ h.needs, 0 ≤ m)
include hm hn
omit hn in
theorem back_ex (y : Int) : ∃ r, h.Back y r := by
  obtain ⟨k, _, _, hk, hlo⟩ := least (P := fun k : Nat => y < y - h.drops + k + 1 + h.lostZ (y - h.drops + k + 1)) (fun _ => Decidable.em _) 0 h.drops.toNat (Nat.zero_le _) (by
    have := lostZ_nn hL hN ho hd (y - h.drops + (h.drops.toNat : Nat) + 1)
    show y < _
    omega)
  refine ⟨y - h.drops + k, back_of hL hN ho hd ?_ hk⟩
  by_cases c : k = 0
  · subst c
    have := lost_lt hL hN hd hm (lostZ_spec hL hN ho hd (y - h.drops + (0 : Nat)))
    show _ ≤ y
    omega
  · have := hlo (k - 1) (Nat.zero_le _) (by omega)
    rw [show y - h.drops + ((k - 1 : Nat) : Int) + 1 = y - h.drops + k by omega] at this
    omega
omit hn in
theorem late_ex (a : Nat) : ∀ (n : Nat) (y : Int), ∃ r, h.Late a n y r
  | 0, y => ⟨y, late_zero⟩
  | n + 1, y => by
    obtain ⟨r, hr⟩ := back_ex hL hN ho hd hm y
    obtain ⟨r', hr'⟩ := late_ex a n (r - h.need ((a + n) % h.needs.length))
    exact ⟨r', late_step hr hr'⟩
/-- the line behind a row -/
theorem last_led {l : List (Now × Int)} {s : Now} (a : h.At s) (x : h.Rows s l) : h.lineZ (lastOf s l) = h.ledN s.ant (h.lineZ s) l.length := by
  rcases List.eq_nil_or_concat l with rfl | ⟨l', r, rfl⟩
  · rfl
  · have e : (l'.concat r)[l'.length]? = some r := by rw [List.concat_eq_append, List.getElem?_append_right (Nat.le_refl _), Nat.sub_self]; rfl
    have := (rows_led hL hN ho hd hm hn a x e).1
    rw [List.concat_eq_append]
    rw [last_snoc, this, List.length_append]
    rfl
theorem line_le {s : Now} (p0 : 0 ≤ s.pot) : h.lineZ s ≤ h.given s.day := by unfold lineZ; omega
/-- a turn is gone by an open evening just where its line is no more than what was given by then -/
theorem day_by {o : Nat} (oo : h.isOpen o = true) : ∀ {l : List (Now × Int)} {s : Now}, h.At s → h.Rows s l → s.day ≤ o → h.lineZ (lastOf s l) ≤ h.given o → (lastOf s l).day ≤ o
  | [], s, _, _, d, _ => d
  | r :: l, s, a, x, d, e => by
    have a1 := turn_at hm a x.1
    refine day_by oo (l := l) (s := r.1) a1 x.2 ?_ e
    have e1 : h.lineZ r.1 ≤ h.given o := by
      have := last_led hL hN ho hd hm hn a1 x.2
      have g := led_ge (a := r.1.ant) hL hN ho hd hn (x := h.lineZ r.1) l.length
      have e' : h.lineZ (lastOf r.1 l) ≤ h.given o := e
      omega
    obtain ⟨m, hm', rfl⟩ := x.1
    have el := eve_line hL hN hn a hm'
    have e2 : h.lineZ (h.goes s m).1 = h.given m - min (h.over s m) h.most := rfl
    show m ≤ o
    by_cases c : h.given m - min (h.over s m) h.most ≤ 0
    · rw [el.1 c]; exact d
    · obtain ⟨k, hk⟩ := dayOf_ex hN hL ho hd (h.given m - min (h.over s m) h.most)
      rw [el.2 k (by omega) hk]
      refine Nat.max_le.mpr ⟨d, Nat.not_lt.mp fun c2 => ?_⟩
      have := hk.2.2 o c2 oo
      omega
theorem by_iff {n o : Nat} {l : List (Now × Int)} {s : Now} (a : h.At s) (x : h.Rows s l) (u : h.Until n o) (d : s.day ≤ n) : (lastOf s l).day ≤ n ↔ h.ledN s.ant (h.lineZ s) l.length ≤ h.given o := by
  have al := rows_at hm a x
  have e := last_led hL hN ho hd hm hn a x
  rw [← e]
  have ds := until_ge u d a.op
  constructor
  · intro l1
    have := until_ge u l1 al.op
    have := given_mono hN hL this
    have := line_le hL hN ho hd hm hn al.p0
    omega
  · intro l1
    have := day_by hL hN ho hd hm hn u.2.1 a x ds l1
    have := u.1
    omega
end
/-- the least pot, given how much it wants to be -/
def potV (h : Hill) (x : Int) : L2.V := if max 0 x ≤ h.most then .int (max 0 x) else .non
end Hill
open PySem PyProof.Rows L2
theorem shaped_rows (l : List (Now × Int)) : SeqAt.shaped (.list (l.map rowD)) = true := by
  have key : ∀ l : List (Now × Int), PyData.canLayAll0 (l.map rowD) = true ∧ PyData.depthAll (l.map rowD) ≤ 2 := by
    intro l
    induction l with
    | nil => exact ⟨by simp [PyData.canLayAll0], by simp [PyData.depthAll]⟩
    | cons p ps ih =>
      obtain ⟨a, b⟩ := ih
      refine ⟨?_, ?_⟩
      · show PyData.canLayAll0 (.tuple [.tuple [.int p.1.day, .int p.1.ant, .int p.1.pot], .int p.2] :: ps.map rowD) = true
        simp [PyData.canLayAll0, PyData.canLay0, a]
      · show PyData.depthAll (.tuple [.tuple [.int p.1.day, .int p.1.ant, .int p.1.pot], .int p.2] :: ps.map rowD) ≤ 2
        simp only [PyData.depthAll, PyData.depth]
        omega
  obtain ⟨a, b⟩ := key l
  unfold SeqAt.shaped
  rw [show PyData.canLay0 (.list (l.map rowD)) = true by simp only [PyData.canLay0]; exact a, decide_eq_true (show PyData.depth (.list (l.map rowD)) ≤ 64 by simp only [PyData.depth]; omega)]
  rfl
end Hz
set_option Elab.async false
set_option linter.all false
namespace Hz
namespace Hill
/-- so many turns are gone by a day's evening -/
def Gone (h : Hill) (a : Nat) (x : Int) (n g : Nat) : Prop := ∃ o, h.Until n o ∧ h.ledN a x g ≤ h.given o ∧ h.given o < h.ledN a x (g + 1)
section
variable {h : Hill} (hL : 0 < h.L) (hN : h.Nn) (ho : ∃ d, d ∈ h.year ∧ d.2 = true) (hd : 0 < h.drops) (hn : ∀ m ∈ h.needs, 1 ≤ m)
include hL hN ho hd hn
theorem led_mono {a : Nat} {x : Int} {m n : Nat} (l : m ≤ n) : h.ledN a x m ≤ h.ledN a x n := by
  induction n with
  | zero => rw [Nat.le_zero.mp l]; exact Int.le_refl _
  | succ n ih =>
    rcases Nat.lt_or_eq_of_le l with c | c
    · exact Int.le_trans (ih (by omega)) (led_rise hL hN ho hd (fun m hm => by have := hn m hm; omega) n)
    · rw [c]; exact Int.le_refl _
theorem led_more (n0 : 0 < h.needs.length) {a : Nat} {x : Int} : ∀ n : Nat, x + n ≤ h.ledN a x n
  | 0 => by show x + 0 ≤ x; omega
  | n + 1 => by
    have ih := led_more n0 (a := a) (x := x) n
    have l0 := lostZ_nn hL hN ho hd (h.ledN a x n + h.need ((a + n) % h.needs.length))
    have n1 : 1 ≤ h.need ((a + n) % h.needs.length) := by
      have lt := Nat.mod_lt (a + n) n0
      unfold need
      rw [List.getElem?_eq_getElem lt]
      exact hn _ (List.getElem_mem lt)
    show _ ≤ h.ledZ _ _
    unfold ledZ
    omega
theorem gone_of (n0 : 0 < h.needs.length) {a : Nat} {x : Int} {n o r : Nat} (u : h.Until n o) (xo : x ≤ h.given o) (l : IsLeast (fun m => decide (h.given o < h.ledN a x m)) (h.given o - x + 1).toNat r) : 1 ≤ r ∧ h.Gone a x n (r - 1) := by
  obtain ⟨l1, l2, l3⟩ := l
  have r1 : 1 ≤ r := by
    refine Nat.pos_of_ne_zero fun z => ?_
    have := l3 (by omega)
    rw [z] at this
    have : h.given o < h.ledN a x 0 := of_decide_eq_true this
    have e0 : h.ledN a x 0 = x := rfl
    omega
  refine ⟨r1, o, u, ?_, ?_⟩
  · have := of_decide_eq_false (l2 (r - 1) (by omega))
    omega
  · rw [show r - 1 + 1 = r by omega]
    by_cases c : r < (h.given o - x + 1).toNat
    · exact of_decide_eq_true (l3 c)
    · have := led_more hL hN ho hd hn n0 (a := a) (x := x) r
      omega
theorem gone_uniq {a : Nat} {x : Int} {n g g' : Nat} (p : h.Gone a x n g) (p' : h.Gone a x n g') : g = g' := by
  obtain ⟨o, u, a1, a2⟩ := p
  obtain ⟨o', u', b1, b2⟩ := p'
  obtain rfl := until_uniq u u'
  rcases Nat.lt_trichotomy g g' with c | c | c
  · have := led_mono hL hN ho hd hn (a := a) (x := x) (m := g + 1) (n := g') (by omega)
    omega
  · exact c
  · have := led_mono hL hN ho hd hn (a := a) (x := x) (m := g' + 1) (n := g) (by omega)
    omega
end
theorem given_le {h : Hill} (hL : 0 < h.L) (hN : h.Nn) {M : Int} (hM : ∀ d ∈ h.year, d.1 ≤ M) (n : Nat) : h.given n ≤ n * h.drops + M := by
  have m := given_mono hN hL (show n ≤ 0 + n * h.L from by
    have := Nat.mul_le_mul_left n (show 1 ≤ h.L from hL)
    omega)
  rw [given_year hL] at m
  have z := given_eq hL 0
  have : h.given 0 ≤ M := by
    rw [z, Nat.zero_div, Nat.zero_mod]
    match e : h.year with
    | [] => unfold L at hL; rw [e] at hL; exact absurd hL (by decide)
    | d :: r =>
      have := hM d (by rw [e]; simp)
      simp
      omega
  omega
theorem dayOf_le {h : Hill} (hL : 0 < h.L) (hN : h.Nn) (ho : ∃ d, d ∈ h.year ∧ d.2 = true) (hd : 0 < h.drops) {y : Int} {m : Nat} (x : h.DayOf y m) : m ≤ (y.toNat + 1) * h.L := by
  obtain ⟨d, ⟨_, od, _⟩, hdl⟩ := openFrom_ex hL ho 0
  refine Nat.not_lt.mp fun c => ?_
  have lt : d + y.toNat * h.L < m := by
    have : (y.toNat + 1) * h.L = y.toNat * h.L + h.L := by rw [Nat.add_mul, Nat.one_mul]
    omega
  have := x.2.2 _ lt (by rw [isOpen_year]; exact od)
  rw [given_year hL] at this
  have g0 : 0 ≤ h.given d := by
    have := ge_mono hN hL (Nat.zero_le (d + 1))
    rw [ge_zero] at this
    exact this
  have : ((y.toNat : Nat) : Int) * 1 ≤ (y.toNat : Nat) * h.drops := Int.mul_le_mul_of_nonneg_left (by omega) (by omega)
  omega
theorem ev_bound {h : Hill} (hL : 0 < h.L) (hN : h.Nn) (ho : ∃ d, d ∈ h.year ∧ d.2 = true) (hd : 0 < h.drops) {d ev : Nat} {y : Int} (v : h.EvOf d y ev) : ev ≤ d + (y.toNat + 1) * h.L := by
  rcases v with ⟨_, rfl⟩ | ⟨_, m, dm, rfl⟩
  · omega
  · have := dayOf_le hL hN ho hd dm
    omega
/-- an evening is no later than a day just where the line is no more than was given by then -/
theorem ev_le {h : Hill} (hL : 0 < h.L) (hN : h.Nn) {d n o ev : Nat} {y : Int} (dn : d ≤ n) (u : h.Until n o) (v : h.EvOf d y ev) : ev ≤ n ↔ y ≤ h.given o := by
  have g0 : 0 ≤ h.given o := by
    have := ge_mono hN hL (Nat.zero_le (o + 1))
    rw [ge_zero] at this
    exact this
  rcases v with ⟨y0, rfl⟩ | ⟨y0, m, dm, rfl⟩
  · exact ⟨fun _ => by omega, fun _ => dn⟩
  · constructor
    · intro l
      have mo := until_ge u (show m ≤ n by omega) dm.1
      exact Int.le_trans dm.2.1 (given_mono hN hL mo)
    · intro l
      have : m ≤ o := Nat.not_lt.mp fun c => by
        have := dm.2.2 o c u.2.1
        omega
      have := u.1
      omega
theorem gone_row {h : Hill} (hL : 0 < h.L) (hN : h.Nn) (ho : ∃ d, d ∈ h.year ∧ d.2 = true) (hd : 0 < h.drops) (hn : ∀ m ∈ h.needs, 1 ≤ m) {a : Nat} {x : Int} {d n g k ev : Nat} (dn : d ≤ n) (gn : h.Gone a x n g) (v : h.EvOf d (h.ledN a x k) ev) : ev ≤ n ↔ k ≤ g := by
  obtain ⟨o, u, a1, a2⟩ := gn
  rw [ev_le hL hN dn u v]
  constructor
  · intro l
    refine Nat.not_lt.mp fun c => ?_
    have := led_mono hL hN ho hd hn (a := a) (x := x) (m := g + 1) (n := k) (by omega)
    omega
  · intro l
    have := led_mono hL hN ho hd hn (a := a) (x := x) l
    omega
theorem step_ex {f : Nat → Int} {c : Int} (h0 : f 0 ≤ c) : ∀ N : Nat, c < f N → ∃ g, g < N ∧ f g ≤ c ∧ c < f (g + 1)
  | 0, l => by omega
  | N + 1, l => by
    by_cases z : f N ≤ c
    · exact ⟨N, by omega, z, l⟩
    · obtain ⟨g, a, b⟩ := step_ex h0 N (by omega)
      exact ⟨g, by omega, b⟩
theorem gone_ex {h : Hill} (hL : 0 < h.L) (hN : h.Nn) (ho : ∃ d, d ∈ h.year ∧ d.2 = true) (hd : 0 < h.drops) (hn : ∀ m ∈ h.needs, 1 ≤ m) (n0 : 0 < h.needs.length) {s : Now} (a : h.At s) {n : Nat} (l : s.day ≤ n) : ∃ g, h.Gone s.ant (h.lineZ s) n g := by
  obtain ⟨o, u⟩ := until_ex a.op n l
  have xo : h.lineZ s ≤ h.given o := by
    have g1 := given_mono hN hL (until_ge u l a.op)
    have := a.p0
    show h.given s.day - s.pot ≤ _
    omega
  have m := led_more hL hN ho hd hn n0 (a := s.ant) (x := h.lineZ s) (h.given o - h.lineZ s + 1).toNat
  obtain ⟨g, _, g1, g2⟩ := step_ex (f := fun m => h.ledN s.ant (h.lineZ s) m) (c := h.given o) xo (h.given o - h.lineZ s + 1).toNat (by show _ < h.ledN _ _ _; omega)
  exact ⟨g, o, u, g1, g2⟩
theorem filter_lt (n g : Nat) (l : g ≤ n) : (List.range n).filter (fun i => decide (i < g)) = List.range g := by
  obtain ⟨e, rfl⟩ : ∃ e, n = g + e := ⟨n - g, by omega⟩
  rw [List.range_add, List.filter_append]
  have h1 : (List.range g).filter (fun i => decide (i < g)) = List.range g := List.filter_eq_self.mpr fun i hi => decide_eq_true (List.mem_range.mp hi)
  have h2 : ((List.range e).map (g + ·)).filter (fun i => decide (i < g)) = [] := List.filter_eq_nil_iff.mpr fun i hi => by
    obtain ⟨j, _, rfl⟩ := List.mem_map.mp hi
    simp
  rw [h1, h2, List.append_nil]
theorem filter_take {α : Type} (us : List α) (d : α) {g : Nat} (l : g ≤ us.length) : ((List.range us.length).filter (fun i => decide (i < g))).map (fun i => (us[i]?).getD d) = us.take g := by
  rw [filter_lt _ _ l]
  apply List.ext_getElem?
  intro j
  rw [List.getElem?_map]
  by_cases c : j < g
  · rw [List.getElem?_range c, List.getElem?_take_of_lt c]
    show some ((us[j]?).getD d) = us[j]?
    rw [List.getElem?_eq_getElem (by omega)]
    rfl
  · rw [List.getElem?_eq_none (by rw [List.length_range]; omega), List.getElem?_eq_none (by rw [List.length_take]; omega)]
    rfl
end Hill
end Hz
set_option Elab.async false
set_option linter.all false
namespace Hz
namespace Hill
/-- behind so many turns, and not ahead of them, all comes round -/
def Come (h : Hill) (a : Nat) (x : Int) (p : Nat) (q : Int) (r : Nat) : Prop := h.Rnd (a + r) (h.ledN a x r) p q ∧ ∀ m, m < r → ¬ h.Rnd (a + m) (h.ledN a x m) p q
theorem come_iff (h : Hill) (a : Nat) (x : Int) (p : Nat) (q : Int) (m : Nat) : h.Rnd (a + m) (h.ledN a x m) p q ↔ h.ledN a x (m + p * h.needs.length) - h.ledN a x m = q * h.drops := by
  unfold Rnd
  rw [ledN_add, ledN_mod]
  omega
theorem come_uniq {h : Hill} {a : Nat} {x : Int} {p : Nat} {q : Int} {r r' : Nat} (c : h.Come a x p q r) (c' : h.Come a x p q r') : r = r' := by
  rcases Nat.lt_trichotomy r r' with l | l | l
  · exact absurd c.1 (c'.2 r l)
  · exact l
  · exact absurd c'.1 (c.2 r' l)
section
variable {h : Hill} (hL : 0 < h.L) (hN : h.Nn) (ho : ∃ d, d ∈ h.year ∧ d.2 = true) (hd : 0 < h.drops)
include hL hN ho hd
theorem come_mono {a : Nat} {x : Int} {p : Nat} {q : Int} {m m' : Nat} (l : m ≤ m') (r : h.Rnd (a + m) (h.ledN a x m) p q) : h.Rnd (a + m') (h.ledN a x m') p q := by
  obtain ⟨k, rfl⟩ : ∃ k, m' = m + k := ⟨m' - m, by omega⟩
  have := Rnd.on hL hN ho hd r k
  rw [ledN_add, ← Nat.add_assoc, ledN_mod]
  exact this
theorem come_of {a : Nat} {x : Int} {p : Nat} {q : Int} {high r : Nat} (hi : h.Rnd (a + high) (h.ledN a x high) p q) (l : IsLeast (fun m => decide (h.ledN a x (m + p * h.needs.length) - h.ledN a x m = q * h.drops)) high r) : h.Come a x p q r := by
  obtain ⟨l1, l2, l3⟩ := l
  refine ⟨?_, fun m hm z => ?_⟩
  · by_cases c : r < high
    · exact (come_iff h a x p q r).mpr (of_decide_eq_true (l3 c))
    · rw [show r = high by omega]; exact hi
  · have := of_decide_eq_false (l2 m hm)
    exact this ((come_iff h a x p q m).mp z)
end
end Hill
end Hz
set_option Elab.async false
set_option linter.all false
set_option maxRecDepth 100000
set_option maxHeartbeats 4000000
namespace Z64
open PySem PySem.Spec PyProof.Rows L2 Hz
section
variable {h : Hill} (hk : HillOk h)
include hk
theorem dist_on {a : Nat} (ha : a < h.needs.length) {x d : Int} (p : Dist h a x d) : ∀ n : Nat, h.ledN a x n - x - h.needN a n ≤ d ∧ Dist h ((a + n) % h.needs.length) (h.ledN a x n) (d - (h.ledN a x n - x - h.needN a n))
  | 0 => by
    have z : h.ledN a x 0 = x := rfl
    have z2 : h.needN a 0 = 0 := rfl
    rw [z, z2, Nat.add_zero, Nat.mod_eq_of_lt ha, show d - (x - x - 0) = d by omega]
    exact ⟨by have := p.nn; omega, p⟩
  | n + 1 => by
    obtain ⟨i1, i2⟩ := dist_on ha p n
    obtain ⟨j1, j2⟩ := i2.turn hk (Nat.mod_lt _ hk.n1)
    have e1 : h.ledN a x (n + 1) = h.ledN a x n + h.need ((a + n) % h.needs.length) + h.lostZ (h.ledN a x n + h.need ((a + n) % h.needs.length)) := rfl
    have e2 : h.needN a (n + 1) = h.needN a n + h.need ((a + n) % h.needs.length) := rfl
    refine ⟨by omega, ?_⟩
    rw [Nat.mod_add_mod] at j2
    rw [show a + (n + 1) = a + n + 1 by omega]
    rw [← e1] at j2
    rwa [show d - (h.ledN a x (n + 1) - x - h.needN a (n + 1)) = d - (h.ledN a x n - x - h.needN a n) - h.lostZ (h.ledN a x n + h.need ((a + n) % h.needs.length)) by omega]
theorem quiet_or {a : Nat} {x : Int} : ∀ k, h.Quiet a x k ∨ ∃ n, h.LossT a x n
  | 0 => .inl fun j a b => by omega
  | k + 1 => by
    rcases quiet_or (a := a) (x := x) k with i | i
    · by_cases c : h.lostZ (x + h.needN a (k + 1)) = 0
      · exact .inl fun j l1 l2 => by
          rcases Nat.lt_or_ge k j with z | z
          · rw [show j = k + 1 by omega]; exact c
          · exact i j l1 z
      · refine .inr ⟨k + 1, by omega, by rw [Nat.add_sub_cancel]; exact i, ?_⟩
        have := Hill.lostZ_nn hk.L0 hk.nn hk.op hk.dr (x + h.needN a (k + 1))
        omega
    · exact .inr i
theorem quiet_all {a : Nat} {x : Int} : (∀ k, h.Quiet a x k) ∨ ∃ n, h.LossT a x n := by
  by_cases c : ∀ k, h.Quiet a x k
  · exact .inl c
  · obtain ⟨k, hk'⟩ := Classical.not_forall.mp c
    rcases quiet_or hk (a := a) (x := x) k with i | i
    · exact (hk' i).elim
    · exact .inr i
/-- so many turns on, so much is lost, or nothing is lost any more -/
theorem lost_so {a : Nat} (ha : a < h.needs.length) {x : Int} : ∀ k : Nat, ∃ m : Nat, m ≤ k * (h.drops.toNat * h.needs.length) ∧ ((∀ j, h.Quiet ((a + m) % h.needs.length) (h.ledN a x m) j) ∨ (k : Int) ≤ h.ledN a x m - x - h.needN a m)
  | 0 => ⟨0, Nat.zero_le _, .inr (by
      have z : h.ledN a x 0 = x := rfl
      have z2 : h.needN a 0 = 0 := rfl
      rw [z, z2]; omega)⟩
  | k + 1 => by
    obtain ⟨m, l, i⟩ := lost_so ha (x := x) k
    rcases i with i | i
    · exact ⟨m, by rw [Nat.add_mul]; omega, .inl i⟩
    · rcases quiet_all hk (a := (a + m) % h.needs.length) (x := h.ledN a x m) with j | ⟨n, L⟩
      · exact ⟨m, by rw [Nat.add_mul]; omega, .inl j⟩
      · have s := Hill.loss_soon hk.L0 hk.nn hk.op hk.dr hk.n1 L
        have e := L.led
        have e2 := L.lost
        refine ⟨m + n, by rw [Nat.add_mul, Nat.one_mul]; omega, .inr ?_⟩
        rw [Hill.ledN_add, Hill.needN_add]
        omega
/-- all that can be lost is lost at last -/
theorem lost_last {a : Nat} (ha : a < h.needs.length) {x d : Int} (p : Dist h a x d) (dl : d < gcdI h) {n : Nat} (big : 10 ^ 39 ≤ n) : h.ledN a x n - x - h.needN a n = d := by
  have dm := hk.dm
  have dr := hk.dr
  have n2 := hk.n2
  have gl : gcdI h ≤ h.drops := by
    have e : h.drops = ((h.drops.natAbs : Nat) : Int) := by omega
    have := Nat.le_of_dvd (show 0 < h.drops.natAbs by omega) (Nat.gcd_dvd_left h.drops.natAbs h.needs.sum.natAbs)
    unfold gcdI
    omega
  obtain ⟨m, l, i⟩ := lost_so hk ha (x := x) h.drops.toNat
  have b : h.drops.toNat * (h.drops.toNat * h.needs.length) ≤ 20000000000000 * (20000000000000 * 20) := Nat.mul_le_mul (by omega) (Nat.mul_le_mul (by omega) n2)
  have t39 : (10 : Nat) ^ 39 = 1000000000000000000000000000000000000000 := by decide
  obtain ⟨k, rfl⟩ : ∃ k, n = m + k := ⟨n - m, by omega⟩
  obtain ⟨u1, u2⟩ := dist_on hk ha p m
  obtain ⟨v1, v2⟩ := dist_on hk ha p (m + k)
  have qu : ∀ j, h.Quiet ((a + m) % h.needs.length) (h.ledN a x m) j := by
    rcases i with i | i
    · exact i
    · omega
  have z : Dist h ((a + m) % h.needs.length) (h.ledN a x m) 0 := ⟨Int.le_refl _, by rw [Int.add_zero]; exact (quiet_iff hk).mp qu, fun e a b => by omega⟩
  have e := u2.uniq z
  have mn := Hill.ledN_need hk.L0 hk.nn hk.op hk.dr ((a + m) % h.needs.length) (h.ledN a x m) k
  rw [← Hill.ledN_add] at mn
  have en := Hill.needN_add h a m k
  omega
/-- so many rounds on, behind where all comes round -/
theorem come_on {a : Nat} {x : Int} {p : Nat} {q : Int} {r m : Nat} (cm : h.Come a x p q r) (l : r ≤ m) : ∀ j : Nat, h.ledN a x (m + j * (p * h.needs.length)) - h.ledN a x m = j * (q * h.drops)
  | 0 => by rw [Nat.zero_mul, Nat.add_zero]; omega
  | j + 1 => by
    have ih := come_on cm l j
    have c := (Hill.come_iff h a x p q (m + j * (p * h.needs.length))).mp (Hill.come_mono hk.L0 hk.nn hk.op hk.dr (show r ≤ m + j * (p * h.needs.length) by omega) cm.1)
    rw [Nat.add_mul, Nat.one_mul, ← Nat.add_assoc, Int.natCast_add, Int.add_mul]
    omega
theorem need_on {a : Nat} {p : Nat} (m j : Nat) : h.needN a (m + j * (p * h.needs.length)) - h.needN a m = j * (p * h.needs.sum) := by
  have e := Hill.needN_rounds h hk.n1 ((a + m) % h.needs.length) (j * p) 0
  have z : h.needN ((a + m) % h.needs.length) 0 = 0 := rfl
  rw [Nat.add_zero, Nat.mul_assoc, z, Int.natCast_mul, Int.mul_assoc] at e
  rw [Hill.needN_add, e]
  omega
/-- the ring from an ant on -/
theorem needN_rot {a : Nat} (ha : a < h.needs.length) (n : Nat) : h.needN a n = ((n / h.needs.length : Nat) : Int) * h.needs.sum + ((h.needs.drop a ++ h.needs.take a).take (n % h.needs.length)).sum := by
  have e := Hill.needN_rounds h hk.n1 a (n / h.needs.length) (n % h.needs.length)
  have md : n / h.needs.length * h.needs.length + n % h.needs.length = n := by
    have := Nat.div_add_mod n h.needs.length
    rw [Nat.mul_comm] at this
    exact this
  rw [md] at e
  rw [e]
  have key : ∀ k, k ≤ h.needs.length → h.needN a k = ((h.needs.drop a ++ h.needs.take a).take k).sum := fun k => by
    induction k with
    | zero => intro _; rfl
    | succ k ih =>
      intro l
      have g := rot_get h ha (show k < h.needs.length by omega)
      have : (h.needs.drop a ++ h.needs.take a).take (k + 1) = (h.needs.drop a ++ h.needs.take a).take k ++ [h.need ((a + k) % h.needs.length)] := by
        rw [List.take_add_one, g]
        rfl
      rw [this, List.sum_append, ← ih (by omega)]
      show h.needN a k + h.need ((a + k) % h.needs.length) = _
      simp
  rw [key _ (Nat.le_of_lt (Nat.mod_lt _ hk.n1))]
/-- one class is spared for each ant, or none for any -/
theorem all_at {a : Nat} (ha : a < h.needs.length) (p : ∀ y, Lossy h a y) : ∀ y, Lossy h 0 y := by
  have key : ∀ j, ∀ y, Lossy h ((a + j) % h.needs.length) y := fun j => by
    induction j with
    | zero => rw [Nat.add_zero, Nat.mod_eq_of_lt ha]; exact p
    | succ j ih =>
      have := all_next hk (Nat.mod_lt _ hk.n1) ih
      rwa [Nat.mod_add_mod, Nat.add_assoc] at this
  have := key (h.needs.length - a)
  rwa [show a + (h.needs.length - a) = h.needs.length by omega, Nat.mod_self] at this
end
end Z64
set_option Elab.async false
set_option linter.all false
set_option maxRecDepth 100000
set_option maxHeartbeats 4000000
namespace Z64
open PySem PySem.Spec PyProof.Rows L2 Hz LamX NdefX
def Spare (h : Hill) : Prop := ∃ y, ¬ Lossy h 0 y
theorem spare_gaps {h : Hill} (hk : HillOk h) {l : List (Int × Int)} (G : Gaps (gcdI h) (Lossy h 0) l) : 0 < l.length ↔ Spare h := by
  constructor
  · intro z
    obtain ⟨y, qu⟩ := spare_at hk G z
    exact ⟨y, (quiet_iff hk).mp qu⟩
  · intro ⟨y, hy⟩
    refine Nat.pos_of_ne_zero fun z => ?_
    have l0 : l = [] := List.length_eq_zero_iff.mp z
    subst l0
    have g0 := gcd_pos hk
    have ly : Lossy h 0 (y % gcdI h) := Classical.byContradiction fun n => by
      obtain ⟨p, hp, _⟩ := (G.eq _ (Int.emod_nonneg y (by omega)) (Int.emod_lt_of_pos y g0)).mpr n
      cases hp
    exact hy ((lossy_mod hk y).mp ly)
theorem needN_full {h : Hill} (hk : HillOk h) (a p : Nat) : h.needN a (p * h.needs.length) = p * h.needs.sum := by
  have := Hill.needN_rounds h hk.n1 a p 0
  have z : h.needN a 0 = 0 := rfl
  rw [Nat.add_zero, z] at this
  omega
/-- a round without a loss: the hill spares -/
theorem rnd_spare {h : Hill} (hk : HillOk h) {x : Int} {p q : Nat} (p1 : 1 ≤ p) (r : h.Rnd 0 x p q) (e : (p : Int) * h.needs.sum = q * h.drops) : Spare h := ⟨x, (quiet_iff hk).mp (Hill.Rnd.quiet hk.L0 hk.nn hk.op hk.dr hk.n1 p1 r e)⟩
/-- where a hill spares, any round is without a loss -/
theorem spare_rate {h : Hill} (hk : HillOk h) (s : Spare h) {a : Nat} {x : Int} {p q : Nat} (al : a < h.needs.length) (r : h.Rnd a x p q) : (p : Int) * h.needs.sum = q * h.drops := by
  obtain ⟨y, hy⟩ := s
  have qu := (quiet_iff hk).mpr hy
  obtain ⟨p', r', _, _, p1, _, rn⟩ := quiet_rnd hk qu
  have l := Hill.ledN_quiet (qu (p' * h.needs.length))
  have rn' : h.ledN 0 y (p' * h.needs.length) = y + r' * h.drops := rn
  rw [needN_full hk, rn'] at l
  have e1 : (p' : Int) * h.needs.sum = r' * h.drops := by omega
  have e2 := Hill.rate hk.L0 hk.nn hk.op hk.dr hk.n1 hk.n1 al rn r
  have e3 : (p' : Int) * (p * h.needs.sum) = p' * (q * h.drops) := by
    rw [← Int.mul_assoc, Int.mul_comm (p' : Int) p, Int.mul_assoc, e1, ← Int.mul_assoc, e2, Int.mul_assoc]
  exact Int.eq_of_mul_eq_mul_left (show (p' : Int) ≠ 0 by omega) e3
end Z64
set_option Elab.async false
set_option linter.all false
set_option maxRecDepth 100000
set_option maxHeartbeats 2000000
namespace HT
open PySem PySem.Spec PyProof.Rows
section
variable {prog : Program} {w : World} {A : Around} {E : Value → Shared → Prop} {s : Shared}
theorem pick3 (x y z : Value) : ((List.range (Builtin.Slice.slicePlaces (Builtin.Slice.sliceAdjust none none (-1) ((3 : Nat) : Int)).1 (Builtin.Slice.sliceAdjust none none (-1) ((3 : Nat) : Int)).2 (-1))).filterMap fun (k : Nat) => (#[x, y, z] : Array Value)[((Builtin.Slice.sliceAdjust none none (-1) ((3 : Nat) : Int)).1 + (k : Int) * (-1)).toNat]?).toArray = #[z, y, x] := by
  have e1 : (Builtin.Slice.sliceAdjust none none (-1) ((3 : Nat) : Int)).1 = 2 := by decide
  have e2 : Builtin.Slice.slicePlaces (Builtin.Slice.sliceAdjust none none (-1) ((3 : Nat) : Int)).1 (Builtin.Slice.sliceAdjust none none (-1) ((3 : Nat) : Int)).2 (-1) = 3 := by decide
  rw [e2, e1]
  rfl
/-- a tuple of three, backwards -/
theorem back_three {t sl : Addr} {x y z vs : Value} {Q : Value → Shared → Prop} (ht : IsTup s.heap t #[x, y, z]) (hs : s.heap.IsSliceOf sl .none .none vs) (ps : IsPart vs (some (-1)))
    (h : Q (.ref s.heap.objs.size) { s with heap := s.heap.push { cls := .type "tuple", data := .seq #[z, y, x] } }) : wpAny (model prog w) A (getItem (.ref t) (.ref sl)) Q E s := by
  obtain ⟨o, ho, hc, hd⟩ := id hs
  unfold getItem
  try with_reducible refine wpAny_holding ?_
  first | refine wpAny_bind (wpAny_pure ?_) | skip
  refine wpAny_bind (wpAny_sequenceKey ht.typeIs (by decide) ?_)
  refine wpAny_bind (wpAny_callSpecial?_slot (name := Str.ofString "__getitem__") ht.typeIs PyProof.Rows.slot_tuple_getitem (wpAny_call_entry PyProof.Rows.slot_tuple_getitem ht.typeIs entry_tuple_getitem ?_ (args_tuple_getitem _ _)))
  show wpAny _ _ (Builtin.Tuple.tupleItemsOf (.ref t) >>= _) _ _ s
  refine wpAny_bind (tupleItemsOf_ ht (wpAny_bind (wpAny_typeOf (show s.TypeIs (.ref sl) "slice" from ⟨o, ho, hc⟩) ?_)))
  rw [if_pos (by decide)]
  refine wpAny_bind ?_
  unfold Builtin.Slice.sliceApplied Builtin.Slice.sliceFields
  refine wpAny_bind (wpAny_bind (wpAny_field ho hd (x := .none) rfl (wpAny_bind (wpAny_field ho hd (x := .none) rfl (wpAny_bind (wpAny_field ho hd (x := vs) rfl (wpAny_pure ?_)))))))
  refine wpAny_bind (slicePart_ ps ?_)
  show wpAny _ _ (if ((-1 : Int) == 0) = true then _ else _) _ _ s
  rw [if_neg (by decide)]
  refine wpAny_bind (slicePart_ .none (wpAny_bind (slicePart_ .none (wpAny_bind (wpAny_pure (wpAny_pure ?_))))))
  show wpAny _ _ (if ((2 : Int) == 0 && (-1 : Int) == 1 && (3 : Nat) == 3) = true then _ else _) _ _ s
  rw [if_neg (by decide)]
  have fits : sizeOk (.seq #[z, y, x]) := by show 3 ≤ sizeLine; decide
  have e : ((List.range 3).filterMap fun (k : Nat) => (#[x, y, z] : Array Value)[((2 : Int) + (k : Int) * (-1)).toNat]?).toArray = #[z, y, x] := by rfl
  refine wpAny_bind (m := Builtin.Tuple.tupleExact _) ?_
  have go : ∀ xs : Array Value, xs = #[z, y, x] → wpAny (model prog w) A.in1 (Builtin.Tuple.tupleExact xs) (fun u s' => u = .ref s.heap.objs.size ∧ s' = { s with heap := s.heap.push { cls := .type "tuple", data := .seq #[z, y, x] } }) (fun _ _ => False) s := fun xs ex => by
    subst ex
    exact wpAny_newObj_type ⟨rfl, rfl⟩ fits
  refine wpAny_mono (go _ (pick3 x y z)) (fun u s' ⟨e1, e2⟩ => ?_) (fun _ _ f => f.elim)
  subst e1 e2
  first
    | exact wpAny_pure ⟨_, rfl, wpAny_pure h⟩
    | exact wpAny_bind (wpAny_pure (wpAny_pure ⟨_, rfl, wpAny_pure h⟩))
end
end HT
namespace Hz
open PySem PySem.Spec PyProof.Rows L2
section
variable {X : Cx}
def tRevT (K : PySem.W.Frag) (te : TE) : TE := fun σ H Q => te σ H fun v H1 => ∃ a x y z, v = .ref a ∧ SqT K H1 a [x, y, z] ∧ ∀ p, H1 p = none → Q (.ref p) (upd H1 p (.tup [z, y, x]))
theorem pe_revT (K : PySem.W.Frag) {e : Expr} {te : TE} {k : Nat} {p1 p2 p3 pos : Pos} (he : PE X e te) (hK : X.K = K := by rfl) : PE X (.Subscript e (.Slice none none (some (.UnaryOp .USub (.Constant (.int 1) k p1) p2)) p3) pos) (tRevT K te) := by
  subst hK
  refine ⟨fun pins s σ H Q J h => Subscript_ (thn (he.run pins s σ H _ J h) fun v s1 ⟨_, H1, J1, r1, a, x, y, z, ev, hx, q⟩ => ?_)⟩
  subst ev
  cases r1
  have back : PO X (some (.UnaryOp .USub (.Constant (.int 1) k p1) p2)) (tPart (tUn (rU fun i => .int (-i)) (tC (.int 1)))) := po_some (pe_un un_neg pe_int)
  refine wpAny_Slice (thn (po_none.run pins s1 σ H1 (fun o G => o = none ∧ G = H1) J1 ⟨rfl, rfl⟩) fun vl s2 ⟨o2, H2, J2, pl, f2, g2⟩ => ?_)
  subst f2 g2
  refine thn (po_none.run pins s2 σ H2 (fun o G => o = none ∧ G = H2) J2 ⟨rfl, rfl⟩) fun vu s3 ⟨o3, H3, J3, pu, f3, g3⟩ => ?_
  subst f3 g3
  refine thn (back.run pins s3 σ H3 (fun o G => o = some (-1) ∧ G = H3) J3 ⟨1, rfl, -1, rfl, rfl, rfl⟩) fun vs s4 ⟨o4, H4, J4, ps, f4, g4⟩ => ?_
  subst f4 g4
  cases pl
  cases pu
  have J5 : Inv X pins σ H4 { s4 with heap := s4.heap.push { cls := .type "slice", data := .fields #[.none, .none, vs] } } := J4.kept (t' := s4.toks) fun b ob q => Heap.get?_push_of_some _ q
  obtain ⟨its, r, ht, hz⟩ := J5.tuple hx
  obtain ⟨u1, u2, u3, rfl, ru1, ru2, ru3⟩ : ∃ u1 u2 u3, its = [u1, u2, u3] ∧ RelV x u1 ∧ RelV y u2 ∧ RelV z u3 := by
    cases r with | cons a1 r => cases r with | cons a2 r => cases r with | cons a3 r => cases r; exact ⟨_, _, _, rfl, a1, a2, a3⟩
  show wpAny (model X.prog X.w) X.A (subscriptTail e (.Slice none none (some (.UnaryOp .USub (.Constant (.int 1) k p1) p2)) p3) (.ref a) (.ref s4.heap.objs.size)) (EP X pins σ Q) X.xe { s4 with heap := s4.heap.push { cls := .type "slice", data := .fields #[.none, .none, vs] } }
  refine tail_any (ops := [.ref a, .ref s4.heap.objs.size]) ht.typeIs PyProof.Rows.slot_tuple_getitem.lookup ?_ (by with_unfolding_all rfl)
  refine HT.back_three ht (Heap.IsSliceOf.new _ .none .none vs) ps ⟨.ref _, _, J5.laid (t' := s4.toks) (o := .tup [z, y, x]) (fun b ob q => Heap.get?_push_of_some _ q) (Nat.le_refl _) ⟨by show 3 ≤ sizeLine; decide, [u3, u2, u1], .cons ru3 (.cons ru2 (.cons ru1 .nil)), IsTup.new _ _⟩, rfl, q _ (J5.hok.fresh (Nat.le_refl _))⟩
end
end Hz
set_option Elab.async false
set_option linter.all false
set_option maxRecDepth 100000
set_option maxHeartbeats 8000000
namespace Z64
open PySem PySem.Spec PyProof.Rows L2 Hz
def numN : PyData → Option Int
  | .int i => if 0 ≤ i then some i else none
  | _ => none
def numD (d : PyData) (l : Int) : Bool := match d with
  | .int i => decide (i ≥ l)
  | _ => false
def tupleD (d : PyData) (n : Int) : Bool := match d with
  | .tuple ds => decide (V.int ds.length = V.int n)
  | _ => false
theorem numD_eq (d : PyData) : numD d 0 = (numN d).isSome := by
  cases d with
  | int i =>
    show decide (i ≥ 0) = (if 0 ≤ i then some i else none).isSome
    by_cases c : 0 ≤ i
    · rw [if_pos c]; exact decide_eq_true c
    · rw [if_neg c]; exact decide_eq_false c
  | _ => rfl
theorem numN_some {d : PyData} {i : Int} (e : numN d = some i) : d = .int i ∧ 0 ≤ i := by
  cases d with
  | int j =>
    change (if 0 ≤ j then some j else none) = some i at e
    by_cases c : 0 ≤ j
    · rw [if_pos c] at e; cases e; exact ⟨rfl, c⟩
    · rw [if_neg c] at e; cases e
  | _ => exact nomatch (show (none : Option Int) = some i from e)
section
variable {P : Program} {w : World} {K : PySem.W.Frag} {mg : Str → Option Value} {base : Heap}
local macro_rules | `(tactic| walk_at "un") => `(tactic| dsimp only [tSeq, tIfS, tRet, tAsg, tDrop, tOr, tAnd, tNot, tAndV, tOrV, tNotV, tTest, tB, tOp, tUn, tCB, tCons, tNil, tC, tNext, tIf, tChain, gName, tPar, tPar3, tTup, tLst])
def spNum (K : PySem.W.Frag) : Sp := fun vs H Q _ => ∃ (v : V) (d : PyData) (l : Int), vs = [v, .int l] ∧ Dp K H v d ∧ Q (.bl (numD d l)) H
theorem ok_is_number (T : Txt K mg) : FnOk P w K mg base CX0 1 T.a_is_number T.d_is_number P_is_number (spNum K) := by
  have nd := sc_is_number.nd
  refine T.F_is_number.ok sc_is_number (fun vs H Q E h => ?_) (fun cdv A outer s H vs Q E hr h => ?_)
  · obtain ⟨v, d, l, rfl, _⟩ := h
    rfl
  · obtain ⟨v, d, l, rfl, hD, q⟩ := h
    refine ⟨_, (pss_one (ps_ret (pe_and (pe_callB (isiK K) (by rfl) T.z_isinstance (by decide +kernel) (pa_cons (pv 0) (pa_cons (pe_bltn (by rfl) T.z_int (by decide +kernel) (v := .ty "int") rfl) pa_nil))) (pe_and (pe_not (pe_callB (isiK K) (by rfl) T.z_isinstance (by decide +kernel) (pa_cons (pv 0) (pa_cons (pe_bltn (by rfl) T.z_bool (by decide +kernel) (v := .ty "bool") rfl) pa_nil)))) (pe_one (pe_cmpR op_ge (pv 0) (pv 1) (nomark _))))))), ?_⟩
    walk_at "un"
    refine ⟨_, rfl, z_isi hD (.inr (.inr (.inr (.inl rfl)))) ?_⟩
    cases d with
    | int i =>
      obtain rfl := dp_int hD
      exact ⟨true, rfl, iteT ⟨_, rfl, z_isi hD (.inr (.inr (.inl rfl))) ⟨false, rfl, _, rfl, iteT ⟨_, rfl, _, rfl, _, _, rfl, rfl, q⟩⟩⟩⟩
    | bool b => exact ⟨true, rfl, iteT ⟨_, rfl, z_isi hD (.inr (.inr (.inl rfl))) ⟨true, rfl, _, rfl, iteF q⟩⟩⟩
    | _ => exact ⟨false, rfl, iteF q⟩
def spTup (K : PySem.W.Frag) : Sp := fun vs H Q _ => ∃ (v : V) (d : PyData) (l : Int), vs = [v, .int l] ∧ Dp K H v d ∧ Q (.bl (tupleD d l)) H
theorem ok_is_tuple_of (T : Txt K mg) : FnOk P w K mg base CX0 1 T.a_is_tuple_of T.d_is_tuple_of P_is_tuple_of (spTup K) := by
  have nd := sc_is_tuple_of.nd
  refine T.F_is_tuple_of.ok sc_is_tuple_of (fun vs H Q E h => ?_) (fun cdv A outer s H vs Q E hr h => ?_)
  · obtain ⟨v, d, l, rfl, _⟩ := h
    rfl
  · obtain ⟨v, d, l, rfl, hD, q⟩ := h
    refine ⟨_, (pss_one (ps_ret (pe_and (pe_callB (isiK K) (by rfl) T.z_isinstance (by decide +kernel) (pa_cons (pv 0) (pa_cons (pe_bltn (by rfl) T.z_tuple (by decide +kernel) (v := .ty "tuple") rfl) pa_nil))) (pe_one (pe_cmpR op_eq (pe_callB (lenK K) (by rfl) T.z_len (by decide +kernel) (pa_cons (pv 0) pa_nil)) (pv 1) (nomark _)))))), ?_⟩
    walk_at "un"
    refine ⟨_, rfl, z_isi hD (.inr (.inl rfl)) ?_⟩
    cases d with
    | tuple ds =>
      obtain ⟨a, xs, rfl, hS, hA⟩ := dp_tup hD
      refine ⟨true, rfl, iteT ⟨_, rfl, a, xs, rfl, .inr hS, _, rfl, rfl, ?_⟩⟩
      rw [dpa_len hA]
      exact q
    | _ => exact ⟨false, rfl, iteF q⟩
end
end Z64
set_option Elab.async false
set_option linter.all false
namespace Hz
open PySem PyProof.Rows L2
variable {K : PySem.W.Frag}
theorem range_get {α : Type} (l : List α) : (List.range l.length).filterMap (fun i => l[i]?) = l := by
  have h : ∀ n, n ≤ l.length → (List.range n).filterMap (fun i => l[i]?) = l.take n := fun n => by
    induction n with
    | zero => intro _; simp
    | succ n ih =>
      intro hn
      rw [List.range_succ, List.filterMap_append, ih (by omega), List.take_add_one]
      congr 1
  rw [h _ (Nat.le_refl _), List.take_length]
/-- a comprehension with no test over a tuple told: of each item the data -/
theorem z_lcTD {g : TG} {te : TE} {vs : List Nat} {σ : L2.St} {H : Hp} {xs : List V} {tl : TE} {Q : VK} (htl : ∀ R : VK, (∀ a H1, Ex [] H H1 → SqT K H1 a xs → R (.ref a) H1) → tl σ H R) (hn : xs.length < 100000) (ds : List PyData) (hl : ds.length = xs.length)
    (turn : ∀ H1, Ex [] H H1 → ∀ (i : Nat) x d, xs[i]? = some x → ds[i]? = some d → ∀ D H', H' D ≠ none → Ex [] H1 H' → ∀ (N : VK), (∀ z H3, Ex [] H' H3 → Dp K (wo [D] H3) z d → N z H3) →
      g x (wipe σ vs) H' fun σ2 H2 => wipe σ2 vs = wipe σ vs ∧ te σ2 H2 N)
    (fin : ∀ D H', H D = none → Dp K H' (.ref D) (.list ds) → Ex [] H H' → Q (.ref D) H') : tLc (iTup K tl) g tYes te vs σ H Q := by
  have lt : ∀ {i : Nat} {x : V}, xs[i]? = some x → i < xs.length := fun h => by
    obtain ⟨h, _⟩ := List.getElem?_eq_some_iff.mp h
    exact h
  have core : ∀ H1, Ex [] H H1 → ∀ D, H1 D = none → ∀ i x, xs[i]? = some x → ∀ H', (Ex [] H1 H' ∧ ∃ zs, H' D = some (.lst zs) ∧ zs.length ≤ i ∧ DpAll K (wo [D] H') zs ((List.range i).filterMap (fun i => ds[i]?))) →
      g x (wipe σ vs) H' fun σ2 H2 => wipe σ2 vs = wipe σ vs ∧ tYes σ2 H2 fun b H3 => if b = true then te σ2 H3 fun y H4 => ∃ acc, H4 D = some (.lst acc) ∧ acc.length < sizeLine ∧ (Ex [] H1 (upd H4 D (.lst (acc ++ [y]))) ∧ ∃ zs, upd H4 D (.lst (acc ++ [y])) D = some (.lst zs) ∧ zs.length ≤ i + 1 ∧ DpAll K (wo [D] (upd H4 D (.lst (acc ++ [y])))) zs ((List.range (i + 1)).filterMap (fun i => ds[i]?))) else (Ex [] H1 H3 ∧ ∃ zs, H3 D = some (.lst zs) ∧ zs.length ≤ i + 1 ∧ DpAll K (wo [D] H3) zs ((List.range (i + 1)).filterMap (fun i => ds[i]?))) := fun H1 x1 D hD i x hx H' hP => by
    obtain ⟨e1, zs, hz, lz, hA⟩ := hP
    have up : ∀ {G G' : Hp} {o : HO}, Ex [] G G' → Le (wo [D] G) (wo [D] (upd G' D o)) := fun x a o q => by
      obtain ⟨n1, n2⟩ := wo_some q
      exact wo_of n1 (by rw [upd_ne (fun z => n1 (by rw [z]; exact List.mem_cons_self))]; exact x.1 _ _ (by simp) n2)
    have nn : H' D ≠ none := by rw [hz]; exact fun z => by cases z
    have hd : ds[i]? = some (ds[i]'(by rw [hl]; exact lt hx)) := List.getElem?_eq_getElem _
    have := turn H1 x1 i x _ hx hd D H' nn e1 (fun y H4 => ∃ acc, H4 D = some (.lst acc) ∧ acc.length < sizeLine ∧ (Ex [] H1 (upd H4 D (.lst (acc ++ [y]))) ∧ ∃ zs, upd H4 D (.lst (acc ++ [y])) D = some (.lst zs) ∧ zs.length ≤ i + 1 ∧ DpAll K (wo [D] (upd H4 D (.lst (acc ++ [y])))) zs ((List.range (i + 1)).filterMap (fun i => ds[i]?)))) (fun z H3 x3 hz3 => ?_)
    · simpa only [tYes, if_true, eq_self] using this
    · refine ⟨zs, x3.1 _ _ (by simp) hz, sz_lt (by have := lt hx; omega), (e1.trans x3).mutNew' hD, zs ++ [z], upd_same, by rw [List.length_append, List.length_singleton]; omega, ?_⟩
      rw [List.range_succ, List.filterMap_append, List.filterMap_cons, hd, List.filterMap_nil]
      exact dpa_snoc (dpa_le (up x3) _ _ hA) (dp_le (up (Ex.refl _ _)) _ _ hz3)
  have start : ∀ H1, ∀ D, H1 D = none → (Ex [] H1 (upd H1 D (.lst [])) ∧ ∃ zs, upd H1 D (.lst []) D = some (.lst zs) ∧ zs.length ≤ 0 ∧ DpAll K (wo [D] (upd H1 D (.lst []))) zs ((List.range 0).filterMap (fun i => ds[i]?))) := fun H1 D hD => ⟨Ex.new hD, [], upd_same, Nat.le_refl _, .nil⟩
  exact htl _ fun a H1 x1 hS => ⟨a, rfl, ⟨xs, hS⟩, fun D hD => lc_tup (fun i H' => Ex [] H1 H' ∧ ∃ zs, H' D = some (.lst zs) ∧ zs.length ≤ i ∧ DpAll K (wo [D] H') zs ((List.range i).filterMap (fun i => ds[i]?))) (start H1 D hD) (fun i H' _ p => le_t p.1.le0 hS) (fun i x H' hx p => core H1 x1 D hD i x hx H' p) (fun H' p => by
    obtain ⟨e1, zs, hz, lz, hA⟩ := p
    rw [← hl, range_get] at hA
    exact fin D H' (x1.free hD) (.lst (SqL.of hz) (dpa_le (wo_le _ _) _ _ hA)) (x1.trans e1))⟩
theorem lc_bindT {g : TG} {tt : TT} {te : TE} {vs : List Nat} {σ : L2.St} {H : Hp} {Q : VK} {tl : TE} (h : tl σ H fun x H1 => tLc (iTup K (tC x)) g tt te vs σ H1 Q) : tLc (fun σ H R => iList K tl σ H R ∨ iTup K tl σ H R) g tt te vs σ H Q := .inr h
end Hz
set_option Elab.async false
set_option linter.all false
set_option maxRecDepth 100000
set_option maxHeartbeats 4000000
namespace Hz
open PySem PySem.Spec PyProof.Rows L2 LamX NdefX
/-! ### comprehensions that tell data, whose bodies make functions -/
section
variable {K : PySem.W.Frag} {g : TG} {te : TE} {vs : List Nat} {σ : L2.St} {H : Hp} {T : List NTab}
/-- what has been made behind i items -/
def LcD (K : PySem.W.Frag) (T : List NTab) (H1 : Hp) (D : Addr) (ds : List PyData) (i : Nat) (H' : Hp) : Prop := Et T [] H1 H' ∧ ∃ zs, H' D = some (.lst zs) ∧ zs.length = i ∧ DpAll K (wo [D] H') zs (ds.take i)
theorem lcD_up {H1 G : Hp} {D : Addr} {o : HO} (e : Et T [] H1 G) : LeD (wo [D] H1) (wo [D] (upd G D o)) := fun a u t q => by
  obtain ⟨n1, n2⟩ := wo_some q
  exact wo_of n1 (by rw [upd_ne (fun z => n1 (by rw [z]; exact List.mem_cons_self))]; exact e.1 a u (by simp) t n2)
theorem lcD_next {H1 : Hp} {D : Addr} {ds : List PyData} {d : PyData} {i : Nat} {H' : Hp} (hD : H1 D = none) (hi : i < 100000) (hd : ds[i]? = some d) (P : LcD K T H1 D ds i H') {x : V}
    (turn : (∃ ys, H' D = some (.lst ys)) → ∀ (N : VK), (∀ z H3, Et T [] H' H3 → Dp K (wo [D] H3) z d → N z H3) → g x (wipe σ vs) H' fun σ2 H2 => wipe σ2 vs = wipe σ vs ∧ te σ2 H2 N) :
    g x (wipe σ vs) H' fun σ2 H2 => wipe σ2 vs = wipe σ vs ∧ tYes σ2 H2 fun b H3 => if b = true then te σ2 H3 fun y H4 => ∃ acc, H4 D = some (.lst acc) ∧ acc.length < sizeLine ∧ LcD K T H1 D ds (i + 1) (upd H4 D (.lst (acc ++ [y]))) else LcD K T H1 D ds (i + 1) H3 := by
  obtain ⟨e1, zs, hz, lz, hA⟩ := P
  have := turn ⟨zs, hz⟩ (fun y H4 => ∃ acc, H4 D = some (.lst acc) ∧ acc.length < sizeLine ∧ LcD K T H1 D ds (i + 1) (upd H4 D (.lst (acc ++ [y])))) (fun z H3 x3 hz3 => ?_)
  · simpa only [tYes, if_true, eq_self] using this
  · have d3 := x3.get (by simp) hz
    refine ⟨zs, d3, sz_lt (by omega), (e1.trans x3).mutNew hD d3, zs ++ [z], upd_same, by rw [List.length_append, List.length_singleton, lz], ?_⟩
    rw [List.take_add_one, hd]
    have u2 : ∀ {G : Hp} {o : HO}, Le (wo [D] G) (wo [D] (upd G D o)) := fun a u q => by
      obtain ⟨n1, n2⟩ := wo_some q
      exact wo_of n1 (by rw [upd_ne (fun z => n1 (by rw [z]; exact List.mem_cons_self))]; exact n2)
    exact dpa_snoc (dpa_led (lcD_up x3) _ _ hA) (dp_le u2 _ _ hz3)
theorem lcD_end {H1 : Hp} {D : Addr} {ds : List PyData} {H' : Hp} {n : Nat} (hl : ds.length = n) (P : LcD K T H1 D ds n H') : Dp K H' (.ref D) (.list ds) := by
  obtain ⟨e1, zs, hz, lz, hA⟩ := P
  rw [← hl, List.take_length] at hA
  exact .lst (SqL.of hz) (dpa_le (wo_le _ _) _ _ hA)
theorem lcD_start {H1 : Hp} {D : Addr} {ds : List PyData} (hD : H1 D = none) : LcD K T H1 D ds 0 (upd H1 D (.lst [])) := ⟨Et.new hD, [], upd_same, rfl, .nil⟩
/-- over a range -/
theorem z_lcRD {n : Nat} {lo : Int} {Q : VK} {wi : TI} (hwi : ∀ R : It → Hp → Prop, (∀ H1, Ex [] H H1 → R (Itr lo n) H1) → wi σ H R) (T : List NTab) (ds : List PyData) (hl : ds.length = n) (hn : n < 100000)
    (turn : ∀ (i : Nat) d, i < n → ds[i]? = some d → ∀ D H', H D = none → (∃ ys, H' D = some (.lst ys)) → Et T [] H H' → ∀ (N : VK), (∀ z H3, Et T [] H' H3 → Dp K (wo [D] H3) z d → N z H3) →
      g (.int (lo + i)) (wipe σ vs) H' fun σ2 H2 => wipe σ2 vs = wipe σ vs ∧ te σ2 H2 N)
    (fin : ∀ D H', H D = none → Dp K H' (.ref D) (.list ds) → Et T [] H H' → Q (.ref D) H') : tLc wi g tYes te vs σ H Q :=
  hwi _ fun H1 x1 D hD => lc_range (LcD K T H1 D ds) (lcD_start hD) (fun i H' hi P => by
    have hd : ds[i]? = some (ds[i]'(by omega)) := List.getElem?_eq_getElem _
    exact lcD_next (g := g) (te := te) (vs := vs) (σ := σ) hD (by omega) hd P (fun ny N hN => turn i _ hi hd D H' (x1.free hD) ny ((Et.ex x1).trans P.1) N hN)) (fun H' P => fin D H' (x1.free hD) (lcD_end hl P) ((Et.ex x1).trans P.1))
/-- over a list or a tuple -/
theorem z_lcSD {t : Bool} {xs : List V} {tl : TE} {Q : VK} (htl : ∀ R : VK, (∀ a H1, Ex [] H H1 → SqX t K H1 a xs → R (.ref a) H1) → tl σ H R) (T : List NTab) (ds : List PyData) (hl : ds.length = xs.length) (hn : xs.length < 100000)
    (turn : ∀ H1, Ex [] H H1 → ∀ (i : Nat) x d, xs[i]? = some x → ds[i]? = some d → ∀ D H', H D = none → (∃ ys, H' D = some (.lst ys)) → Et T [] H1 H' → ∀ (N : VK), (∀ z H3, Et T [] H' H3 → Dp K (wo [D] H3) z d → N z H3) →
      g x (wipe σ vs) H' fun σ2 H2 => wipe σ2 vs = wipe σ vs ∧ te σ2 H2 N)
    (fin : ∀ D H', H D = none → Dp K H' (.ref D) (.list ds) → Et T [] H H' → Q (.ref D) H') : tLc (fun σ H R => iList K tl σ H R ∨ iTup K tl σ H R) g tYes te vs σ H Q := by
  have lt : ∀ {i : Nat} {x : V}, xs[i]? = some x → i < xs.length := fun h => by
    obtain ⟨h, _⟩ := List.getElem?_eq_some_iff.mp h
    exact h
  have step : ∀ H1, Ex [] H H1 → ∀ D, H1 D = none → ∀ i x H', xs[i]? = some x → LcD K T H1 D ds i H' → _ := fun H1 x1 D hD i x H' hx P => by
    have l := lt hx
    have hd : ds[i]? = some (ds[i]'(by omega)) := List.getElem?_eq_getElem _
    exact lcD_next (g := g) (te := te) (vs := vs) (σ := σ) hD (by omega) hd P (x := x) (fun ny N hN => turn H1 x1 i x _ hx hd D H' (x1.free hD) ny P.1 N hN)
  cases t with
  | false => exact .inl (htl _ fun a H1 x1 hS => ⟨a, rfl, ⟨xs, hS⟩, fun D hD => lc_list (LcD K T H1 D ds) (lcD_start hD) (fun i H' _ P => led_l P.1.led0 hS) (fun i x H' hx P => step H1 x1 D hD i x H' hx P) (fun H' P => fin D H' (x1.free hD) (lcD_end hl P) ((Et.ex x1).trans P.1))⟩)
  | true => exact .inr (htl _ fun a H1 x1 hS => ⟨a, rfl, ⟨xs, hS⟩, fun D hD => lc_tup (LcD K T H1 D ds) (lcD_start hD) (fun i H' _ P => led_t P.1.led0 hS) (fun i x H' hx P => step H1 x1 D hD i x H' hx P) (fun H' P => fin D H' (x1.free hD) (lcD_end hl P) ((Et.ex x1).trans P.1))⟩)
/-- over a tuple, over a list -/
theorem z_lcTE {xs : List V} {tl : TE} {Q : VK} (htl : ∀ R : VK, (∀ a H1, Ex [] H H1 → SqT K H1 a xs → R (.ref a) H1) → tl σ H R) (T : List NTab) (ds : List PyData) (hl : ds.length = xs.length) (hn : xs.length < 100000)
    (turn : ∀ H1, Ex [] H H1 → ∀ (i : Nat) x d, xs[i]? = some x → ds[i]? = some d → ∀ D H', H D = none → (∃ ys, H' D = some (.lst ys)) → Et T [] H1 H' → ∀ (N : VK), (∀ z H3, Et T [] H' H3 → Dp K (wo [D] H3) z d → N z H3) →
      g x (wipe σ vs) H' fun σ2 H2 => wipe σ2 vs = wipe σ vs ∧ te σ2 H2 N)
    (fin : ∀ D H', H D = none → Dp K H' (.ref D) (.list ds) → Et T [] H H' → Q (.ref D) H') : tLc (iTup K tl) g tYes te vs σ H Q := by
  have lt : ∀ {i : Nat} {x : V}, xs[i]? = some x → i < xs.length := fun h => by
    obtain ⟨h, _⟩ := List.getElem?_eq_some_iff.mp h
    exact h
  have step : ∀ H1, Ex [] H H1 → ∀ D, H1 D = none → ∀ i x H', xs[i]? = some x → LcD K T H1 D ds i H' → _ := fun H1 x1 D hD i x H' hx P => by
    have l := lt hx
    have hd : ds[i]? = some (ds[i]'(by omega)) := List.getElem?_eq_getElem _
    exact lcD_next (g := g) (te := te) (vs := vs) (σ := σ) hD (by omega) hd P (x := x) (fun ny N hN => turn H1 x1 i x _ hx hd D H' (x1.free hD) ny P.1 N hN)
  exact htl _ fun a H1 x1 hS => ⟨a, rfl, ⟨xs, hS⟩, fun D hD => lc_tup (LcD K T H1 D ds) (lcD_start hD) (fun i H' _ P => led_t P.1.led0 hS) (fun i x H' hx P => step H1 x1 D hD i x H' hx P) (fun H' P => fin D H' (x1.free hD) (lcD_end hl P) ((Et.ex x1).trans P.1))⟩
theorem z_lcLE {xs : List V} {tl : TE} {Q : VK} (htl : ∀ R : VK, (∀ a H1, Ex [] H H1 → SqL K H1 a xs → R (.ref a) H1) → tl σ H R) (T : List NTab) (ds : List PyData) (hl : ds.length = xs.length) (hn : xs.length < 100000)
    (turn : ∀ H1, Ex [] H H1 → ∀ (i : Nat) x d, xs[i]? = some x → ds[i]? = some d → ∀ D H', H D = none → (∃ ys, H' D = some (.lst ys)) → Et T [] H1 H' → ∀ (N : VK), (∀ z H3, Et T [] H' H3 → Dp K (wo [D] H3) z d → N z H3) →
      g x (wipe σ vs) H' fun σ2 H2 => wipe σ2 vs = wipe σ vs ∧ te σ2 H2 N)
    (fin : ∀ D H', H D = none → Dp K H' (.ref D) (.list ds) → Et T [] H H' → Q (.ref D) H') : tLc (iList K tl) g tYes te vs σ H Q := by
  have lt : ∀ {i : Nat} {x : V}, xs[i]? = some x → i < xs.length := fun h => by
    obtain ⟨h, _⟩ := List.getElem?_eq_some_iff.mp h
    exact h
  have step : ∀ H1, Ex [] H H1 → ∀ D, H1 D = none → ∀ i x H', xs[i]? = some x → LcD K T H1 D ds i H' → _ := fun H1 x1 D hD i x H' hx P => by
    have l := lt hx
    have hd : ds[i]? = some (ds[i]'(by omega)) := List.getElem?_eq_getElem _
    exact lcD_next (g := g) (te := te) (vs := vs) (σ := σ) hD (by omega) hd P (x := x) (fun ny N hN => turn H1 x1 i x _ hx hd D H' (x1.free hD) ny P.1 N hN)
  exact htl _ fun a H1 x1 hS => ⟨a, rfl, ⟨xs, hS⟩, fun D hD => lc_list (LcD K T H1 D ds) (lcD_start hD) (fun i H' _ P => led_l P.1.led0 hS) (fun i x H' hx P => step H1 x1 D hD i x H' hx P) (fun H' P => fin D H' (x1.free hD) (lcD_end hl P) ((Et.ex x1).trans P.1))⟩
theorem lc_bindTT {tt : TT} {tl : TE} {Q : VK} (h : tl σ H fun x H1 => tLc (iTup K (tC x)) g tt te vs σ H1 Q) : tLc (iTup K tl) g tt te vs σ H Q := h
end
end Hz
set_option Elab.async false
set_option linter.all false
set_option maxRecDepth 100000
set_option maxHeartbeats 4000000
namespace Hz
open PySem PySem.Spec PyProof.Rows L2 LamX NdefX
section
variable {K : PySem.W.Frag} {g g1 : TG} {te : TE} {vs vs1 : List Nat} {σ : L2.St} {H : Hp} {Q : VK} {wi wi1 : TI}
/-- the data of i rows and j of the next one -/
def rowsUp (f : Nat → Nat → PyData) (m i j : Nat) : List PyData := ((List.range i).flatMap fun a => (List.range m).map (f a)) ++ (List.range j).map (f i)
theorem rowsUp_next (f : Nat → Nat → PyData) (m i j : Nat) : rowsUp f m i (j + 1) = rowsUp f m i j ++ [f i j] := by
  unfold rowsUp
  rw [List.range_succ, List.map_append, ← List.append_assoc]
  rfl
theorem rowsUp_row (f : Nat → Nat → PyData) (m i : Nat) : rowsUp f m i m = rowsUp f m (i + 1) 0 := by
  unfold rowsUp
  rw [List.range_succ, List.flatMap_append]
  show _ = (_ ++ ((List.range m).map (f i) ++ [])) ++ []
  rw [List.append_nil, List.append_nil]
theorem rowsUp_len (f : Nat → Nat → PyData) (m : Nat) : ∀ i j, (rowsUp f m i j).length = i * m + j
  | 0, j => by unfold rowsUp; simp
  | i + 1, j => by
    induction j with
    | zero => rw [← rowsUp_row, rowsUp_len f m i m, Nat.add_mul]; omega
    | succ j ih => rw [rowsUp_next, List.length_append, ih]; rfl
def LcR2 (K : PySem.W.Frag) (H1 : Hp) (D : Addr) (f : Nat → Nat → PyData) (m i j : Nat) (G : Hp) : Prop := Ex [] H1 G ∧ ∃ zs, G D = some (.lst zs) ∧ DpAll K (wo [D] G) zs (rowsUp f m i j)
/-- a comprehension over two ranges, data told -/
theorem z_lcRR {n m : Nat} {lo lo1 : Int} (hwi : ∀ R : It → Hp → Prop, (∀ H1, Ex [] H H1 → R (Itr lo n) H1) → wi σ H R) (f : Nat → Nat → PyData) (hn : n * m + m < 100000)
    (turn : ∀ (i : Nat), i < n → ∀ H', Ex [] H H' → ∀ Rg : L2.St → Hp → Prop, (∀ σ2, wipe σ2 vs = wipe σ vs → (∀ R : It → Hp → Prop, R (Itr lo1 m) H' → wi1 σ2 H' R) →
        (∀ j, j < m → ∀ G D, (∃ ys, G D = some (.lst ys)) → Ex [] H G → ∀ N : VK, (∀ z H3, Ex [] G H3 → Dp K (wo [D] H3) z (f i j) → N z H3) → g1 (.int (lo1 + j)) (wipe σ2 vs1) G fun σ3 H5 => wipe σ3 vs1 = wipe σ2 vs1 ∧ te σ3 H5 N) → Rg σ2 H') → g (.int (lo + i)) (wipe σ vs) H' Rg)
    (fin : ∀ D H', H D = none → Dp K H' (.ref D) (.list (rowsUp f m n 0)) → Ex [] H H' → Q (.ref D) H') : tLc2 wi g tYes wi1 g1 tYes te vs vs1 σ H Q := by
  refine hwi _ fun H1 x1 D hD => ?_
  refine ⟨fun i k G => i + k = n ∧ LcR2 K H1 D f m i 0 G, ⟨n, by omega, Ex.new hD, [], upd_same, .nil⟩, fun i k G hw => ?_⟩
  obtain ⟨e, x2, zs, hz, hA⟩ := hw
  cases k with
  | zero =>
    obtain rfl : i = n := by omega
    exact .inl ⟨Nat.le_refl _, fin D G (x1.free hD) (.lst (SqL.of hz) (dpa_le (wo_le _ _) _ _ hA)) (x1.trans x2)⟩
  | succ k =>
    refine .inr ⟨by show i < n; omega, LcR2 K H1 D f m (i + 1) 0, fun H' p' => ⟨k, by omega, by omega, p'⟩, fun x H' hv => ?_⟩
    obtain ⟨rfl, rfl⟩ := hv
    refine turn i (by omega) _ (x1.trans x2) _ fun σ2 hw2 hi ht => ⟨hw2, ?_⟩
    show tYes σ2 _ _
    simp only [tYes, if_true, eq_self]
    refine hi _ ?_
    refine ⟨fun j k' G' => j + k' = m ∧ LcR2 K H1 D f m i j G', ⟨m, by omega, x2, zs, hz, hA⟩, fun j k' G' hw' => ?_⟩
    obtain ⟨e', x3, zs', hz', hA'⟩ := hw'
    cases k' with
    | zero =>
      obtain rfl : j = m := by omega
      exact .inl ⟨Nat.le_refl _, x3, zs', hz', by rw [← rowsUp_row]; exact hA'⟩
    | succ k' =>
      refine .inr ⟨by show j < m; omega, LcR2 K H1 D f m i (j + 1), fun H'' p'' => ⟨k', by omega, by omega, p''⟩, fun y H'' hv' => ?_⟩
      obtain ⟨rfl, rfl⟩ := hv'
      have := ht j (by omega) _ D ⟨zs', hz'⟩ (x1.trans x3) (fun y H7 => ∃ acc, H7 D = some (.lst acc) ∧ acc.length < sizeLine ∧ LcR2 K H1 D f m i (j + 1) (upd H7 D (.lst (acc ++ [y])))) (fun z H3 x4 hz3 => ?_)
      · simpa only [tYes, if_true, eq_self] using this
      · have d3 := x4.get (by simp) hz'
        have ll := dpa_len hA'
        rw [rowsUp_len] at ll
        have im : i * m ≤ n * m := Nat.mul_le_mul_right _ (by omega)
        refine ⟨zs', d3, sz_lt (by omega), (x3.trans x4).mutNew' hD, zs' ++ [z], upd_same, ?_⟩
        rw [rowsUp_next]
        have up : ∀ {G G' : Hp} {o : HO}, Ex [] G G' → Le (wo [D] G) (wo [D] (upd G' D o)) := fun x a o q => by
          obtain ⟨n1, n2⟩ := wo_some q
          exact wo_of n1 (by rw [upd_ne (fun z => n1 (by rw [z]; exact List.mem_cons_self))]; exact x.1 _ _ (by simp) n2)
        exact dpa_snoc (dpa_le (up x4) _ _ hA') (dp_le (up (Ex.refl _ _)) _ _ hz3)
end
end Hz
set_option Elab.async false
set_option linter.all false
set_option maxRecDepth 100000
set_option maxHeartbeats 4000000
namespace Hz
open PySem PySem.Spec PyProof.Rows L2 LamX NdefX
section
variable {K : PySem.W.Frag} {g g1 : TG} {te : TE} {vs vs1 : List Nat} {σ : L2.St} {H : Hp} {Q : VK} {wi wi1 : TI}
/-- a comprehension over two ranges, data told -/
theorem z_lcRRw {n m : Nat} {lo lo1 : Int} (hwi : ∀ R : It → Hp → Prop, (∀ H1, Ex [] H H1 → R (Itr lo n) H1) → wi σ H R) (f : Nat → Nat → PyData) (hn : n * m + m < 100000)
    (turn : ∀ (i : Nat), i < n → ∀ H', Ex [] H H' → ∀ Rg : L2.St → Hp → Prop, (∀ σ2, wipe σ2 vs = wipe σ vs → (∀ R : It → Hp → Prop, R (Itr lo1 m) H' → wi1 σ2 H' R) →
        (∀ j, j < m → ∀ G D, (∃ ys, G D = some (.lst ys)) → Ex [] H G → ∀ N : VK, (∀ z H3, Ex [] G H3 → Dp K (wo [D] H3) z (f i j) → N z H3) → g1 (.int (lo1 + j)) (wipe σ2 vs1) G fun σ3 H5 => wipe σ3 vs1 = wipe σ2 vs1 ∧ te σ3 H5 N) → Rg σ2 H') → g (.int (lo + i)) (wipe σ vs) H' Rg)
    (fin : ∀ D zs H', H D = none → H' D = some (.lst zs) → DpAll K (wo [D] H') zs (rowsUp f m n 0) → Ex [] H H' → Q (.ref D) H') : tLc2 wi g tYes wi1 g1 tYes te vs vs1 σ H Q := by
  refine hwi _ fun H1 x1 D hD => ?_
  refine ⟨fun i k G => i + k = n ∧ LcR2 K H1 D f m i 0 G, ⟨n, by omega, Ex.new hD, [], upd_same, .nil⟩, fun i k G hw => ?_⟩
  obtain ⟨e, x2, zs, hz, hA⟩ := hw
  cases k with
  | zero =>
    obtain rfl : i = n := by omega
    exact .inl ⟨Nat.le_refl _, fin D zs G (x1.free hD) hz hA (x1.trans x2)⟩
  | succ k =>
    refine .inr ⟨by show i < n; omega, LcR2 K H1 D f m (i + 1) 0, fun H' p' => ⟨k, by omega, by omega, p'⟩, fun x H' hv => ?_⟩
    obtain ⟨rfl, rfl⟩ := hv
    refine turn i (by omega) _ (x1.trans x2) _ fun σ2 hw2 hi ht => ⟨hw2, ?_⟩
    show tYes σ2 _ _
    simp only [tYes, if_true, eq_self]
    refine hi _ ?_
    refine ⟨fun j k' G' => j + k' = m ∧ LcR2 K H1 D f m i j G', ⟨m, by omega, x2, zs, hz, hA⟩, fun j k' G' hw' => ?_⟩
    obtain ⟨e', x3, zs', hz', hA'⟩ := hw'
    cases k' with
    | zero =>
      obtain rfl : j = m := by omega
      exact .inl ⟨Nat.le_refl _, x3, zs', hz', by rw [← rowsUp_row]; exact hA'⟩
    | succ k' =>
      refine .inr ⟨by show j < m; omega, LcR2 K H1 D f m i (j + 1), fun H'' p'' => ⟨k', by omega, by omega, p''⟩, fun y H'' hv' => ?_⟩
      obtain ⟨rfl, rfl⟩ := hv'
      have := ht j (by omega) _ D ⟨zs', hz'⟩ (x1.trans x3) (fun y H7 => ∃ acc, H7 D = some (.lst acc) ∧ acc.length < sizeLine ∧ LcR2 K H1 D f m i (j + 1) (upd H7 D (.lst (acc ++ [y])))) (fun z H3 x4 hz3 => ?_)
      · simpa only [tYes, if_true, eq_self] using this
      · have d3 := x4.get (by simp) hz'
        have ll := dpa_len hA'
        rw [rowsUp_len] at ll
        have im : i * m ≤ n * m := Nat.mul_le_mul_right _ (by omega)
        refine ⟨zs', d3, sz_lt (by omega), (x3.trans x4).mutNew' hD, zs' ++ [z], upd_same, ?_⟩
        rw [rowsUp_next]
        have up : ∀ {G G' : Hp} {o : HO}, Ex [] G G' → Le (wo [D] G) (wo [D] (upd G' D o)) := fun x a o q => by
          obtain ⟨n1, n2⟩ := wo_some q
          exact wo_of n1 (by rw [upd_ne (fun z => n1 (by rw [z]; exact List.mem_cons_self))]; exact x.1 _ _ (by simp) n2)
        exact dpa_snoc (dpa_le (up x4) _ _ hA') (dp_le (up (Ex.refl _ _)) _ _ hz3)
end
end Hz
set_option Elab.async false
set_option linter.all false
set_option maxRecDepth 100000
set_option maxHeartbeats 2000000
namespace Hz
open PySem PyProof.Rows L2
/-! ### data of tuples alone stands beside any list -/
mutual
def tupD : PyData → Bool
  | .list _ => false
  | .dict _ => false
  | .tuple ds => tupDs ds
  | _ => true
def tupDs : List PyData → Bool
  | [] => true
  | d :: ds => tupD d && tupDs ds
end
theorem tupDs_of : ∀ {ds : List PyData}, (∀ d ∈ ds, tupD d = true) → tupDs ds = true
  | [], _ => rfl
  | d :: ds, h => by
    show (tupD d && tupDs ds) = true
    rw [h d (by simp), tupDs_of fun e he => h e (by simp [he])]
    rfl
mutual
theorem dp_tupwo {K : PySem.W.Frag} {G : Hp} {p : Addr} {ys : List V} (hp : G p = some (.lst ys)) : ∀ (d : PyData) (v : V), tupD d = true → Dp K G v d → Dp K (wo [p] G) v d
  | .none, _, _, h => by cases h; exact .non
  | .bool b, _, _, h => by cases h; exact .bl b
  | .int i, _, _, h => by cases h; exact .int i
  | .str x, _, _, h => by cases h; exact .str x
  | .list ds, _, t, h => by cases (show false = true from t)
  | .tuple ds, _, t, h => by cases h with | tup h1 h2 => exact .tup (sqt_wo hp h1) (dpa_tupwo hp ds _ t h2)
  | .dict _, _, _, h => by cases h
theorem dpa_tupwo {K : PySem.W.Frag} {G : Hp} {p : Addr} {ys : List V} (hp : G p = some (.lst ys)) : ∀ (ds : List PyData) (vs : List V), tupDs ds = true → DpAll K G vs ds → DpAll K (wo [p] G) vs ds
  | [], _, _, h => by cases h; exact .nil
  | d :: ds, _, t, h => by
    cases h with
    | cons h1 h2 =>
      have t' : (tupD d && tupDs ds) = true := t
      rw [Bool.and_eq_true] at t'
      exact .cons (dp_tupwo hp d _ t'.1 h1) (dpa_tupwo hp ds _ t'.2 h2)
end
theorem tupD_hill (h : Hill) : tupD (h.dat true) = true := by
  have e1 : tupDs (h.year.map fun d => PyData.tuple [.int d.1, .bool d.2]) = true := tupDs_of fun d hd => by
    obtain ⟨x, _, rfl⟩ := List.mem_map.mp hd
    rfl
  have e2 : tupDs (h.needs.map PyData.int) = true := tupDs_of fun d hd => by
    obtain ⟨x, _, rfl⟩ := List.mem_map.mp hd
    rfl
  show (tupDs _ && (tupDs _ && (true && true))) = true
  rw [show tupDs (h.year.map fun d => sq true [.int d.1, .bool d.2]) = true from e1, e2]
  rfl
theorem Bx.tup {K : PySem.W.Frag} {b : Addr} {n : Nat} {G : Hp} {v : V} {d : PyData} (B : Bx b n G) (t : tupD d = true) (h : Dp K G v d) : Dp K (wo [b] G) v d := by
  obtain ⟨_, _, _, hb, _⟩ := B
  exact dp_tupwo hb _ _ t h
end Hz
namespace Hz
open PySem PyProof.Rows L2
/-- two ways that go on alike, where a call has told a truth -/
theorem told_via {α : Type} {X : α → Prop} {G : Hp} {b : α → Bool} {A : α → Hp → Prop} {R P : Hp → Prop} (h0 : ∀ l H', X l → Ex [] G H' → P H') (hR : ∀ H', P H' → R H') (hA : ∀ l H', X l → Ex [] G H' → b l = true → (∀ H', P H' → R H') → A l H') :
    ∀ l H', X l → Ex [] G H' → ∃ c, V.bl (b l) = V.bl c ∧ if c = true then A l H' else R H' := fun l H' x e => by
  refine ⟨_, rfl, ?_⟩
  by_cases h : b l = true
  · rw [if_pos h]; exact hA l H' x e h hR
  · rw [if_neg h]; exact hR H' (h0 l H' x e)
theorem told_via2 {α : Type} {X : α → Prop} {G : Hp} {b : α → Bool} {B : α → Hp → Prop} {R P : Hp → Prop} (h0 : ∀ l H', X l → Ex [] G H' → P H') (hR : ∀ H', P H' → R H') (hB : ∀ l H', X l → Ex [] G H' → b l = false → (∀ H', P H' → R H') → B l H') :
    ∀ l H', X l → Ex [] G H' → ∃ c, V.bl (b l) = V.bl c ∧ if c = true then R H' else B l H' := fun l H' x e => by
  refine ⟨_, rfl, ?_⟩
  by_cases h : b l = true
  · rw [if_pos h]; exact hR H' (h0 l H' x e)
  · rw [if_neg h]; exact hB l H' x e (Bool.eq_false_iff.mpr h) hR
end Hz
set_option Elab.async false
set_option linter.all false
set_option maxRecDepth 100000
set_option maxHeartbeats 8000000
namespace Z64
open PySem PySem.Spec PyProof.Rows L2 Hz LamX NdefX
section
variable {P : Program} {w : World} {K : PySem.W.Frag} {mg : Str → Option Value} {base : Heap}
local macro_rules | `(tactic| walk_at "un") => `(tactic| try dsimp only [tSeq, tIfS, tRet, tAsg, tDrop, tOr, tAnd, tNot, tAndV, tOrV, tNotV, tTest, tB, tOp, tUn, tCB, tCons, tNil, tC, tNext, tIf, tChain, gName, tPar, tPar3, tTup, tLst])
local macro_rules | `(tactic| walk_at "ut") => `(tactic| dsimp only [tNil, tCons, tC, List.append_nil, List.cons_append, List.nil_append])
/-- all pairs of an ant and a place -/
def pairsD (n m : Nat) : List PyData := rowsUp (fun a b => .tuple [.int (a : Nat), .int (b : Nat)]) m n 0
def spillsD (n m : Nat) : PyData := .tuple [.str "spills", .list (pairsD n m)]
/-- what a paper says of its hill -/
def PaperD (h : Hill) (d : PyData) : Prop := (∃ y0 y1 l', d = .tuple [.str "spares", .int y0] ∧ Gaps (gcdI h) (Lossy h 0) ((y0, y1) :: l')) ∨ (∃ lows, d = spillsD h.needs.length lows.length ∧ h.Lows lows ∧ Gaps (gcdI h) (Lossy h 0) [])
def spPaper (K : PySem.W.Frag) : Sp := fun vs H Q _ => ∃ (t : Bool) (h : Hill) (v : V), vs = [v] ∧ Dp K H v (h.dat t) ∧ HillOk h ∧
  (∀ y0 y1 l' p H', Gaps (gcdI h) (Lossy h 0) ((y0, y1) :: l') → H' p = some (.tup [.str (Str.ofString "spares"), .int y0]) → Ex [] H H' → Q (.ref p) H') ∧
  (∀ lows p L ws H', h.Lows lows → Gaps (gcdI h) (Lossy h 0) [] → H' p = some (.tup [.str (Str.ofString "spills"), .ref L]) → H L = none → H' L = some (.lst ws) → DpAll K (wo [L] H') ws (pairsD h.needs.length lows.length) → Ex [] H H' → Q (.ref p) H')
theorem ok_paper (T : Txt K mg) : FnOk P w K mg base CX0 6 T.a_paper T.d_paper P_paper (spPaper K) := by
  have nd := sc_paper.nd
  have G_sparing := ok_sparing (P := P) (w := w) (base := base) T
  have G_stretches := ok_stretches (P := P) (w := w) (base := base) T
  refine T.F_paper.ok sc_paper (fun vs H Q E h => ?_) (fun cdv A outer s H vs Q E hr h => ?_)
  · obtain ⟨t, h, v, rfl, _⟩ := h
    rfl
  · obtain ⟨t, h, v, rfl, hD, hk, qA, qB⟩ := h
    have hr_sparing := hr
    have hr_stretches := hr.mono (show 4 ≤ 5 by decide)
    refine ⟨_, (pss_cons (ps_set (i := 1) nd rfl (Or.inl rfl) (pe_call G_sparing hr_sparing (by rfl) T.m_sparing T.k_sparing T.b_sparing .nil pass0 (pa_cons (pv 0) (pa_cons pe_int pa_nil))))
      (pss_cons (ps_if (pt_truth (pv 1) (fun _ => rfl)) (pss_one (ps_ret (pe_tup (pa_cons pe_str (pa_cons (pe_ix (ixK K) (pe_ix (ixK K) (pv 1) pe_int (fun _ _ => rfl)) pe_int (fun _ _ => rfl)) pa_nil))))) pss_nil)
      (pss_cons (ps_set (i := 2) nd rfl (Or.inr rfl) (pe_callB (lenK K) (by rfl) T.z_len (by decide +kernel) (pa_cons (pe_call G_stretches hr_stretches (by rfl) T.m_stretches T.k_stretches T.b_stretches .nil pass0 (pa_cons (pv 0) pa_nil)) pa_nil)))
      (pss_one (ps_ret (pe_tup (pa_cons pe_str (pa_cons (pe_lc2 (own := [("ant", 3), ("place", 4)]) (vs1 := [4]) (by rfl) nd (pi_range1 (by rfl) T.z_range (pa_cons (pe_callB (lenK K) (by rfl) T.z_len (by decide +kernel) (pa_cons (pe_ix (ixK K) (pv 0) pe_int (fun _ _ => rfl)) pa_nil)) pa_nil)) (blkOk_by (N := N_paper) (own := [("ant", 3), ("place", 4)]) (sc := defScope s_paper) (by decide +kernel)) (by decide) (fun _ _ _ _ _ => pg_name (i := 3) nd rfl (Or.inl rfl)) (fun _ _ _ _ _ => pts_nil) (fun _ _ _ _ _ => (pi_range1 (by rfl) T.z_range (pa_cons (pv 2) pa_nil))) (fun _ _ _ _ _ => pg_name (i := 4) nd rfl (Or.inl rfl)) (fun _ _ _ _ _ => pts_nil) (fun _ _ _ _ _ => (pe_tup (pa_cons (pv 3) (pa_cons (pv 4) pa_nil))))) pa_nil)))))))), ?_⟩
    have est : L2.start N_paper [v] = [some v, none, none, none, none] := rfl
    rw [est]
    clear est
    walk_at "un"
    refine ⟨_, rfl, t, h, v, 0, rfl, hD, hk, fun l0 p ws H1 Gl _ f1 t1 hW x1 => ?_⟩
    have W := dpa_le (wo_le _ _) _ _ (hW [] (by simp))
    have lw := dpa_len W
    rw [List.length_map] at lw
    refine ⟨_, rfl, _, .inl ⟨ws, SqL.of t1, rfl⟩, ?_⟩
    cases l0 with
    | cons y l' =>
      cases W with | @cons w0 _ ws' _ k0 W =>
      obtain ⟨pa, qs, rfl, hpS, hpA⟩ := dp_sq (t := true) (ds := [.int y.1, .int y.2]) k0
      cases hpA with | @cons z0 _ _ _ i0 hpA => cases hpA with | @cons z1 _ _ _ i1 hpA =>
      cases hpA
      obtain rfl := dp_int i0
      refine iteT ?_
      try dsimp only [List.set_cons_zero, List.set_cons_succ]
      refine ⟨_, rfl, z_ix (.inl (SqL.of t1)) (i := 0) (v := .ref pa) (by exact atI_nat (j := 0) rfl) ?_⟩
      refine z_ix (.inr hpS) (i := 0) (v := .int y.1) rfl ⟨(by show 2 ≤ sizeLine; decide), fun pr hpr => ?_⟩
      exact qA y.1 y.2 l' pr _ Gl upd_same (x1.trans (Ex.new hpr))
    | nil =>
    have : ws = [] := List.length_eq_zero_iff.mp lw
    subst this
    refine iteF ?_
    try dsimp only [List.set_cons_zero, List.set_cons_succ]
    refine ⟨_, rfl, t, h, v, rfl, dp_le x1.le0 _ _ hD, hk, fun l us p2 H2 lo f2 t2 dl x2 => ?_⟩
    have du := dpa_le (wo_le _ _) _ _ (dl [] (by simp))
    have lu := dpa_len du
    rw [List.length_map] at lu
    refine ⟨p2, us, rfl, .inl (SqL.of t2), ?_⟩
    have x12 := x1.trans x2
    have ll := Hill.lows_len hk.L0 hk.nn hk.op hk.dr hk.m0 lo
    have hL2 : h.L ≤ 20 := hk.y2
    have n2 := hk.n2
    obtain ⟨va, xs, rfl, hS, hA⟩ := dp_sq (dp_le x12.le0 _ _ hD)
    obtain ⟨nv, hny, hnD⟩ := dpa_get hA (i := 1) rfl
    obtain ⟨na, ns', rfl, hnS, hnA⟩ := dp_sq hnD
    have ln := dpa_len hnA
    rw [List.length_map] at ln
    have mul := Nat.mul_le_mul n2 (show l.length ≤ 20 by omega)
    refine z_lcRRw (K := K) (n := h.needs.length) (m := l.length) (lo := 0) (lo1 := 0) (fun R r => ⟨_, rfl, z_ix hS.sq (v := .ref na) (i := 1) (atI_nat hny) ⟨na, ns', rfl, hnS.sq, _, rfl, by omega, by omega, ?_⟩⟩) (fun a b => .tuple [.int (a : Nat), .int (b : Nat)]) (by omega) (fun i hi H' xH Rg hRg => ?_) (fun D zs H' fD zD tD xD => ?_)
    · have := r H2 (Ex.refl _ _)
      rw [ln]
      exact this
    · refine hRg _ rfl (fun R r => ⟨_, rfl, _, rfl, by omega, by omega, ?_⟩) fun j hj G D ny xG N hN => ?_
      · rw [lu]
        exact r
      · refine ⟨rfl, _, rfl, _, rfl, (by show 2 ≤ sizeLine; decide), fun pt hpt => ?_⟩
        obtain ⟨ys, ny⟩ := ny
        have xt := Ex.new (B := []) (o := .tup [.int (0 + (i : Int)), .int (0 + (j : Int))]) hpt
        refine hN _ _ xt (dp_tupwo (xt.get (by simp) ny) _ _ rfl ?_)
        rw [Int.zero_add, Int.zero_add]
        exact .tup (SqT.of upd_same) (.cons (.int _) (.cons (.int _) .nil))
    refine ⟨(by show 2 ≤ sizeLine; decide), fun pr hpr => ?_⟩
    have xr := Ex.new (B := []) (o := .tup [.str (Str.ofString "spills"), .ref D]) hpr
    have nL : D ≠ pr := fun z => by rw [z] at zD; rw [zD] at hpr; cases hpr
    refine qB l pr D zs _ lo Gl upd_same (x12.free fD) (xr.get (by simp) zD) ?_ (x12.trans (xD.trans xr))
    exact dpa_le (xr.nil.wo) _ _ tD
end
end Z64
set_option Elab.async false
set_option linter.all false
set_option maxRecDepth 100000
set_option maxHeartbeats 8000000
namespace Z64
open PySem PySem.Spec PyProof.Rows L2 Hz LamX NdefX
section
variable {P : Program} {w : World} {K : PySem.W.Frag} {mg : Str → Option Value} {base : Heap}
local macro_rules | `(tactic| walk_at "un") => `(tactic| try dsimp only [tSeq, tIfS, tRet, tAsg, tDrop, tOr, tAnd, tNot, tAndV, tOrV, tNotV, tTest, tB, tOp, tUn, tCB, tCons, tNil, tC, tNext, tIf, tChain, gName, tPar, tPar3, tTup, tLst])
local macro_rules | `(tactic| walk_at "ut") => `(tactic| dsimp only [tNil, tCons, tC, List.append_nil, List.cons_append, List.nil_append])
def duD (r : Nat × Nat) : PyData := .tuple [.int (r.1 : Nat), .int (r.2 : Nat)]
theorem numD_nat (n : Nat) : numD (.int (n : Nat)) 0 = true := by
  show decide ((n : Int) ≥ 0) = true
  exact decide_eq_true (Int.natCast_nonneg n)
def spRowY (K : PySem.W.Frag) : Sp := fun vs H Q _ => ∃ (v : V) (r : Nat × Nat) (n m : Nat), vs = [v, .int n, .int m] ∧ Dp K H v (duD r) ∧ r.1 < n ∧ r.2 < m ∧ ∀ H', Ex [] H H' → Q (.bl true) H'
theorem ok_is_row (T : Txt K mg) : FnOk P w K mg base CX0 2 T.a_is_row T.d_is_row P_is_row (spRowY K) := by
  have nd := sc_is_row.nd
  have G_is_tuple_of := ok_is_tuple_of (P := P) (w := w) (base := base) T
  have G_is_number := ok_is_number (P := P) (w := w) (base := base) T
  refine T.F_is_row.ok sc_is_row (fun vs H Q E h => ?_) (fun cdv A outer s H vs Q E hr h => ?_)
  · obtain ⟨v, r, n, m, rfl, _⟩ := h
    rfl
  · obtain ⟨v, r, n, m, rfl, hD, hn, hm, q⟩ := h
    have hr_is_tuple_of := hr
    have hr_is_number := hr
    refine ⟨_, (pss_cons (ps_if (PW.pt (pw_or (pt_not (pt_val (pe_call G_is_tuple_of hr_is_tuple_of (by rfl) T.m_is_tuple_of T.k_is_tuple_of T.b_is_tuple_of .nil pass0 (pa_cons (pv 0) (pa_cons pe_int pa_nil))))) (pw_or1 (pt_not (pt_val (pe_callB (allK K) (by rfl) T.z_all (by decide +kernel) (pa_cons (pe_lc (own := [("part", 3)]) (by rfl) nd (pi_seqK K (pv 0)) (blkOk_by (N := N_is_row) (own := [("part", 3)]) (sc := defScope s_is_row) (by decide +kernel)) (fun _ _ _ _ _ => pg_name (i := 3) nd rfl (Or.inl rfl)) (fun _ _ _ _ _ => pts_nil) (fun _ _ _ _ _ => (pe_call G_is_number hr_is_number (by rfl) T.m_is_number T.k_is_number T.b_is_number .nil pass0 (pa_cons (pv 3) (pa_cons pe_int pa_nil))))) pa_nil))))))) (pss_one (ps_ret pe_bl)) pss_nil)
      (pss_one (ps_ret (pe_and (pe_cmpR op_lt (pe_ix (ixK K) (pv 0) pe_int (fun _ _ => rfl)) (pv 1) (nomark _)) (pe_one (pe_cmpR op_lt (pe_ix (ixK K) (pv 0) pe_int (fun _ _ => rfl)) (pv 2) (nomark _))))))), ?_⟩
    have est : L2.start N_is_row [v, .int n, .int m] = [some v, some (.int n), some (.int m), none] := rfl
    rw [est]
    clear est
    obtain ⟨a, xs, rfl, hS, hA⟩ := dp_sq (t := true) (ds := [.int (r.1 : Nat), .int (r.2 : Nat)]) hD
    have hA' := hA
    cases hA with | @cons v0 _ _ _ k0 hA => cases hA with | @cons v1 _ _ _ k1 hA =>
    cases hA
    obtain rfl := dp_int k0
    obtain rfl := dp_int k1
    walk_at "un"
    refine ⟨_, rfl, .ref a, _, 2, rfl, hD, ?_⟩
    refine ⟨_, rfl, ?_⟩
    rw [show tupleD (duD r) 2 = true from rfl]
    refine iteF ?_
    refine z_lcP1 (t := true) (xs := [.int (r.1 : Nat), .int (r.2 : Nat)]) (fun R rr => ⟨_, rfl, rr a H (Ex.refl _ _) hS⟩) (by show 2 < 100000; decide) (fun _ => V.bl true) (fun i y H' hy x1 N hN => ?_) (fun D H' hD' hz x1 => ?_)
    · rcases i with _ | _ | i
      · cases hy
        refine ⟨rfl, _, rfl, _, .int (r.1 : Nat), 0, rfl, .int _, ?_⟩
        rw [numD_nat]
        exact hN _ (Ex.refl _ _)
      · cases hy
        refine ⟨rfl, _, rfl, _, .int (r.2 : Nat), 0, rfl, .int _, ?_⟩
        rw [numD_nat]
        exact hN _ (Ex.refl _ _)
      · exact absurd hy (by simp)
    refine ⟨D, [true, true], rfl, SqL.of hz, ?_⟩
    refine ⟨_, rfl, iteF ?_⟩
    have hS' := le_t x1.le0 hS
    refine ⟨_, rfl, z_ix (.inr hS') (i := 0) (v := .int (r.1 : Nat)) rfl ⟨_, rfl, _, _, rfl, rfl, _, rfl, ?_⟩⟩
    rw [decide_eq_true (show ((r.1 : Nat) : Int) < (n : Nat) by omega)]
    refine iteT ⟨_, rfl, z_ix (.inr hS') (i := 1) (v := .int (r.2 : Nat)) rfl ⟨_, rfl, _, _, rfl, rfl, ?_⟩⟩
    dsimp only
    rw [decide_eq_true (show ((r.2 : Nat) : Int) < (m : Nat) by omega)]
    exact q H' x1
/-- the arc of an ant and a stretch -/
noncomputable def arcR (h : Hill) (l : List Int) (r : Nat × Nat) : Int × Int := (l.getD r.2 0 - h.needN 0 (r.1 + 1), l.getD r.2 0 + h.lostZ (l.getD r.2 0) - 1 - h.needN 0 (r.1 + 1))
def spSpill (K : PySem.W.Frag) : Sp := fun vs H Q _ => ∃ (t : Bool) (h : Hill) (v w : V) (rs : List (Nat × Nat)) (l : List Int), vs = [v, w] ∧ Dp K H v (h.dat t) ∧ HillOk h ∧ h.Lows l ∧ Dp K H w (.list (rs.map duD)) ∧ (∀ r ∈ rs, r.1 < h.needs.length ∧ r.2 < l.length) ∧ rs.length ≤ 5000 ∧
  ∀ (l' : List (Int × Int)) H', Gaps (gcdI h) (OnArc (gcdI h) (rs.map (arcR h l))) l' → Ex [] H H' → Q (.bl (decide (l'.length = 0))) H'
theorem ok_shows_spilling (T : Txt K mg) : FnOk P w K mg base CX0 5 T.a_shows_spilling T.d_shows_spilling P_shows_spilling (spSpill K) := by
  have nd := sc_shows_spilling.nd
  have G_stretches := ok_stretches (P := P) (w := w) (base := base) T
  have G_is_row := ok_is_row (P := P) (w := w) (base := base) T
  have G_needed := ok_needed (P := P) (w := w) (base := base) T
  have G_unmet := ok_unmet (P := P) (w := w) (base := base) T
  have G_common := ok_common (P := P) (w := w) (base := base) T
  refine T.F_shows_spilling.ok sc_shows_spilling (fun vs H Q E h => ?_) (fun cdv A outer s H vs Q E hr h => ?_)
  · obtain ⟨t, h, v, w, rs, l, rfl, _⟩ := h
    rfl
  · obtain ⟨t, h, v, w, rs, l, rfl, hD, hk, lo, hW, va, lr, q⟩ := h
    have hr_stretches := hr
    have hr_is_row := hr.mono (show 2 ≤ 4 by decide)
    have hr_needed := hr.mono (show 2 ≤ 4 by decide)
    have hr_unmet := hr.mono (show 1 ≤ 4 by decide)
    have hr_common := hr.mono (show 2 ≤ 4 by decide)
    refine ⟨_, (pss_cons (ps_set (i := 2) nd rfl (Or.inr rfl) (pe_call G_stretches hr_stretches (by rfl) T.m_stretches T.k_stretches T.b_stretches .nil pass0 (pa_cons (pv 0) pa_nil)))
      (pss_cons (ps_if (PW.pt (pw_or (pt_not (pt_val (pe_callB (isiK K) (by rfl) T.z_isinstance (by decide +kernel) (pa_cons (pv 1) (pa_cons (pe_bltn (by rfl) T.z_list (by decide +kernel) (v := .ty "list") rfl) pa_nil))))) (pw_or1 (pt_not (pt_val (pe_callB (allK K) (by rfl) T.z_all (by decide +kernel) (pa_cons (pe_lc (own := [("row", 9)]) (by rfl) nd (pi_seqK K (pv 1)) (blkOk_by (N := N_shows_spilling) (own := [("row", 9)]) (sc := defScope s_shows_spilling) (by decide +kernel)) (fun _ _ _ _ _ => pg_name (i := 9) nd rfl (Or.inl rfl)) (fun _ _ _ _ _ => pts_nil) (fun _ _ _ _ _ => (pe_call G_is_row hr_is_row (by rfl) T.m_is_row T.k_is_row T.b_is_row .nil pass0 (pa_cons (pv 9) (pa_cons (pe_callB (lenK K) (by rfl) T.z_len (by decide +kernel) (pa_cons (pe_ix (ixK K) (pv 0) pe_int (fun _ _ => rfl)) pa_nil)) (pa_cons (pe_callB (lenK K) (by rfl) T.z_len (by decide +kernel) (pa_cons (pv 2) pa_nil)) pa_nil)))))) pa_nil))))))) (pss_one (ps_ret pe_bl)) pss_nil)
      (pss_cons (ps_set (i := 3) nd rfl (Or.inl rfl) (pe_lst pa_nil))
      (pss_cons (ps_for PassesOwn.never rfl (pi_seqK K (pv 1)) (pg_tupK K 2 (by rfl) (pgs_cons (pg_name (i := 4) nd rfl (Or.inl rfl)) (pgs_cons (pg_name (i := 5) nd rfl (Or.inl rfl)) pgs_nil))) (pss_cons (ps_asg (pe_ix (ixK K) (pv 2) (pv 5) (fun _ _ => rfl)) (pg_tupK K 2 (by rfl) (pgs_cons (pg_name (i := 6) nd rfl (Or.inl rfl)) (pgs_cons (pg_name (i := 7) nd rfl (Or.inl rfl)) pgs_nil))))
      (pss_cons (ps_set (i := 8) nd rfl (Or.inl rfl) (pe_call G_needed hr_needed (by rfl) T.m_needed T.k_needed T.b_needed .nil pass0 (pa_cons (pv 0) (pa_cons pe_int (pa_cons (pe_op op_add (pv 4) pe_int) pa_nil)))))
      (pss_one (ps_expr (pe_bm PySem.F.plainAttrs_list PySem.F.slot_list_append PySem.F.type_list_append mt_append (pv 3) (pa_cons (pe_tup (pa_cons (pe_op op_sub (pv 6) (pv 8)) (pa_cons (pe_op op_sub (pv 7) (pv 8)) pa_nil))) pa_nil)))))))
      (pss_one (ps_ret (pe_cmpR op_eq (pe_callB (lenK K) (by rfl) T.z_len (by decide +kernel) (pa_cons (pe_call G_unmet hr_unmet (by rfl) T.m_unmet T.k_unmet T.b_unmet .nil pass0 (pa_cons (pe_call G_common hr_common (by rfl) T.m_common T.k_common T.b_common .nil pass0 (pa_cons (pv 0) pa_nil)) (pa_cons (pv 3) pa_nil))) pa_nil)) pe_int (nomark _)))))))), ?_⟩
    have est : L2.start N_shows_spilling [v, w] = [some v, some w, none, none, none, none, none, none, none, none] := rfl
    rw [est]
    clear est
    walk_at "un"
    refine ⟨_, rfl, t, h, v, rfl, hD, hk, fun l2 us p H1 lo2 f1 t1 dl x1 => ?_⟩
    obtain rfl := Hill.Lows.uniq lo2 lo
    have du := dpa_le (wo_le _ _) _ _ (dl [] (by simp))
    have lu := dpa_len du
    rw [List.length_map] at lu
    obtain ⟨wa, ws, rfl, hwS, hwA⟩ := dp_sq (t := false) (dp_le x1.le0 _ _ hW)
    have lw := dpa_len hwA
    rw [List.length_map] at lw
    try dsimp only [List.set_cons_zero, List.set_cons_succ]
    refine ⟨_, rfl, z_isi (dp_le x1.le0 _ _ hW) (.inl rfl) ?_⟩
    refine ⟨true, rfl, iteF ?_⟩
    have hn2 := hk.n2
    obtain ⟨hv, xs, rfl, hS, hA⟩ := dp_sq (dp_le x1.le0 _ _ hD)
    obtain ⟨nv, hny, hnD⟩ := dpa_get hA (i := 1) rfl
    obtain ⟨na, ns', rfl, hnS, hnA⟩ := dp_sq hnD
    have ln := dpa_len hnA
    rw [List.length_map] at ln
    have rowAt : ∀ {i : Nat} {y : V}, ws[i]? = some y → ∃ r, rs[i]? = some r ∧ Dp K H1 y (duD r) := fun {i y} hy => by
      obtain ⟨d, hd, hDd⟩ := dpa_get' hwA hy
      rw [List.getElem?_map] at hd
      obtain ⟨r, hr', rfl⟩ := Option.map_eq_some_iff.mp hd
      exact ⟨r, hr', hDd⟩
    refine z_lcP1 (t := false) (xs := ws) (fun R rr => ⟨_, rfl, rr wa H1 (Ex.refl _ _) hwS⟩) (by omega) (fun _ => V.bl true) (fun i y H' hy x2 N hN => ?_) (fun D H' hD' hz x2 => ?_)
    · obtain ⟨r, hrr, hDd⟩ := rowAt hy
      obtain ⟨v1, v2⟩ := va r (List.mem_of_getElem? hrr)
      refine ⟨rfl, _, rfl, _, rfl, z_ix (le_x x2.le0 hS).sq (v := .ref na) (i := 1) (atI_nat hny) ⟨na, ns', rfl, (le_x x2.le0 hnS).sq, ?_⟩⟩
      refine ⟨_, rfl, p, us, rfl, .inl (SqL.of (x2.get (by simp) t1)), y, r, h.needs.length, l2.length, by rw [ln, lu]; rfl, dp_le x2.le0 _ _ hDd, v1, v2, fun H3 x3 => hN H3 x3⟩
    have allT : (List.range ws.length).map (fun _ => V.bl true) = (List.replicate ws.length true).map V.bl := by
      rw [List.map_replicate]
      exact List.eq_replicate_iff.mpr ⟨by simp, fun b hb => by
        obtain ⟨_, _, rfl⟩ := List.mem_map.mp hb
        rfl⟩
    refine ⟨D, List.replicate ws.length true, rfl, SqL.of (by rw [hz, allT]), ?_⟩
    have allY : (List.replicate ws.length true).all id = true := by
      rw [List.all_eq_true]
      intro z hz
      rw [List.eq_of_mem_replicate hz]
      rfl
    rw [allY]
    refine ⟨_, rfl, iteF ⟨Nat.zero_le _, fun A hAA => ?_⟩⟩
    try dsimp only [List.set_cons_zero, List.set_cons_succ]
    have x12 := x1.trans x2
    have xA := Ex.new (B := []) (o := .lst []) hAA
    have A0 : H' A = none := hAA
    refine Or.inl (z_forL fun Rf hRf => ⟨_, rfl, hRf _ _ ⟨wa, ws, fun i σ G => ∃ u4 u5 u6 u7 u8 : Option V, σ = [some (.ref hv), some (.ref wa), some (.ref p), some (.ref A), u4, u5, u6, u7, u8, none] ∧ (∃ zs, G A = some (.lst zs) ∧ zs.length = i ∧ DpAll K (wo [A] G) zs (((rs.take i).map (arcR h l2)).map pairD)) ∧ Ex [] H' G, rfl,
      ⟨none, none, none, none, none, rfl, ⟨[], upd_same, rfl, .nil⟩, xA⟩, fun i σ' G hi hP => ?_, fun i y σ' G hy hP => ?_, fun σ' G hP => ?_⟩⟩)
    · obtain ⟨_, _, _, _, _, _, _, xG⟩ := hP
      exact le_l (x2.trans xG).le0 hwS
    · obtain ⟨u4, u5, u6, u7, u8, rfl, ⟨zs, hz1, hz2, hz3⟩, xG⟩ := hP
      have xx := x2.trans xG
      obtain ⟨r, hrr, hDd⟩ := rowAt hy
      obtain ⟨v1, v2⟩ := va r (List.mem_of_getElem? hrr)
      obtain ⟨ra, rxs, rfl, hrS, hrA⟩ := dp_sq (t := true) (ds := [.int (r.1 : Nat), .int (r.2 : Nat)]) (dp_le xx.le0 _ _ hDd)
      cases hrA with | @cons w0 _ _ _ k0 hrA => cases hrA with | @cons w1 _ _ _ k1 hrA =>
      cases hrA
      obtain rfl := dp_int k0
      obtain rfl := dp_int k1
      refine ⟨ra, _, rfl, hrS, rfl, ?_⟩
      dsimp only [gCons, gNil, gName, List.set_cons_zero, List.set_cons_succ]
      refine ⟨_, _, rfl, _, _, rfl, rfl, ?_⟩
      obtain ⟨uu, huu⟩ : ∃ u, us[r.2]? = some u := ⟨_, List.getElem?_eq_getElem (by omega)⟩
      obtain ⟨d, hd, hDu⟩ := dpa_get' du huu
      rw [List.getElem?_map] at hd
      obtain ⟨low, hlow, rfl⟩ := Option.map_eq_some_iff.mp hd
      walk_at "un"
      refine ⟨_, rfl, _, rfl, z_ix (.inl (SqL.of (xx.get (by simp) t1))) (atI_nat huu) ?_⟩
      obtain ⟨pa, qs, rfl, hSp, hqA⟩ := dp_sq (t := true) (ds := [.int low, .int (low + h.lostZ low - 1)]) (dp_le xx.le0 _ _ hDu)
      cases hqA with | @cons w0 _ _ _ k1 hqA => cases hqA with | @cons w1 _ _ _ k2 hqA =>
      cases hqA
      obtain rfl := dp_int k1
      obtain rfl := dp_int k2
      refine ⟨pa, _, rfl, hSp, rfl, _, _, rfl, _, _, rfl, rfl, ?_⟩
      try dsimp only [List.set_cons_zero, List.set_cons_succ]
      refine ⟨_, rfl, _, rfl, _, _, rfl, rfl, t, h, .ref hv, 0, r.1 + 1, by rw [Int.natCast_add]; rfl, dp_le (x1.trans xx).le0 _ _ hD, hk, fun G3 x3 => ?_⟩
      have z3 := x3.get (by simp) hz1
      have A3 : A ∉ ([] : List Addr) := by simp
      walk_at "un"
      try dsimp only [List.set_cons_zero, List.set_cons_succ]
      refine ⟨_, rfl, .inl ⟨rfl, _, SqL.of z3⟩, _, rfl, _, rfl, _, _, rfl, rfl, _, rfl, _, rfl, _, _, rfl, rfl, (by show 2 ≤ sizeLine; decide), fun pt hpt => ?_⟩
      have xt := Ex.new (B := []) (o := .tup [.int (low - h.needN 0 (r.1 + 1)), .int (low + h.lostZ low - 1 - h.needN 0 (r.1 + 1))]) hpt
      have z4 := xt.get (by simp) z3
      have ri := (List.getElem?_eq_some_iff.mp hrr).1
      refine ⟨A, _, _, rfl, rfl, z4, sz_lt (by omega), ?_⟩
      refine ⟨_, _, _, _, _, rfl, ⟨zs ++ [.ref pt], upd_same, by rw [List.length_append, hz2]; rfl, ?_⟩, ((xG.trans x3).trans xt).mutNew' A0⟩
      have eA : ((rs.take (i + 1)).map (arcR h l2)).map pairD = ((rs.take i).map (arcR h l2)).map pairD ++ [pairD (arcR h l2 r)] := by
        rw [List.take_add_one, hrr]
        simp only [List.map_append, Option.toList_some, List.map_cons, List.map_nil]
      rw [eA]
      have up : ∀ {G G' : Hp} {o : HO}, Ex [] G G' → Le (wo [A] G) (wo [A] (upd G' A o)) := fun x a o q => by
        obtain ⟨n1, n2⟩ := wo_some q
        exact wo_of n1 (by rw [upd_ne (fun z => n1 (by rw [z]; exact List.mem_cons_self))]; exact x.1 _ _ (by simp) n2)
      refine dpa_snoc (dpa_le (up (x3.trans xt)) _ _ hz3) (dp_le (up (Ex.refl _ _)) _ _ ?_)
      have eD : arcR h l2 r = (low - h.needN 0 (r.1 + 1), low + h.lostZ low - 1 - h.needN 0 (r.1 + 1)) := by
        unfold arcR
        rw [List.getD_eq_getElem?_getD, hlow]
        rfl
      rw [eD]
      exact dp_tupwo z4 _ _ rfl (.tup (SqT.of upd_same) (.cons (.int _) (.cons (.int _) .nil)))
    · obtain ⟨u4, u5, u6, u7, u8, rfl, ⟨zs, hz1, hz2, hz3⟩, xG⟩ := hP
      rw [lw, List.take_length] at hz3
      have g0 : 0 < gcdI h := gcd_pos hk
      refine ⟨_, rfl, t, h, .ref hv, rfl, dp_le (x12.trans xG).le0 _ _ hD, hk, fun G3 x3 => ?_⟩
      refine ⟨_, rfl, ?_⟩
      have z3 := x3.get (by simp) hz1
      have up : Le (wo [A] G) (wo [A] G3) := x3.nil.wo
      refine ⟨gcdI h, rs.map (arcR h l2), A, zs, rfl, g0, SqL.of z3, dpa_le (wo_le _ _) _ _ (dpa_le up _ _ hz3), fun a ha => ?_, by rw [List.length_map]; exact lr, fun l' pp wz G4 Gl _ fp tp dz x4 => ?_⟩
      · obtain ⟨r, hr', rfl⟩ := List.mem_map.mp ha
        obtain ⟨v1, v2⟩ := va r hr'
        have hm : l2.getD r.2 0 ∈ l2 := by
          rw [List.getD_eq_getElem?_getD, List.getElem?_eq_getElem v2]
          exact List.getElem_mem v2
        have := Hill.lows_pos hk.L0 hk.nn hk.op hk.dr hk.m0 lo hm
        show l2.getD r.2 0 - _ ≤ l2.getD r.2 0 + h.lostZ (l2.getD r.2 0) - 1 - _
        omega
      · have lz := dpa_len (dpa_le (wo_le _ _) _ _ (dz [] (by simp)))
        rw [List.length_map] at lz
        refine ⟨pp, wz, rfl, .inl (SqL.of tp), rfl, ?_⟩
        rw [lz]
        have e : decide (V.int ((l'.length : Nat) : Int) = V.int 0) = decide (l'.length = 0) := by
          rw [Bool.eq_iff_iff, decide_eq_true_eq, decide_eq_true_eq]
          exact ⟨fun z => by injection z with z; omega, fun z => by rw [z]; rfl⟩
        rw [e]
        exact q l' G4 Gl (x12.trans (xG.trans (x3.trans x4)))
theorem range_getD (L : List V) : (List.range L.length).map (fun i => (L[i]?).getD .non) = L := by
  have := map_at L id
  rw [List.map_id] at this
  simpa using this
/-- a class beside the runs told -/
def inB (l : List (Int × Int)) (n : Int) : List Bool := l.map fun p => decide (p.1 ≤ n) && decide (n ≤ p.2)
def spShSp (K : PySem.W.Frag) : Sp := fun vs H Q _ => ∃ (t : Bool) (h : Hill) (v : V) (n : Int), vs = [v, .int n] ∧ Dp K H v (h.dat t) ∧ HillOk h ∧ 0 ≤ n ∧ ∀ l H', Gaps (gcdI h) (Lossy h 0) l → Ex [] H H' → Q (.bl ((inB l n).any id)) H'
theorem ok_shows_sparing (T : Txt K mg) : FnOk P w K mg base CX0 6 T.a_shows_sparing T.d_shows_sparing P_shows_sparing (spShSp K) := by
  have nd := sc_shows_sparing.nd
  have G_is_number := ok_is_number (P := P) (w := w) (base := base) T
  have G_sparing := ok_sparing (P := P) (w := w) (base := base) T
  refine T.F_shows_sparing.ok sc_shows_sparing (fun vs H Q E h => ?_) (fun cdv A outer s H vs Q E hr h => ?_)
  · obtain ⟨t, h, v, n, rfl, _⟩ := h
    rfl
  · obtain ⟨t, h, v, n, rfl, hD, hk, n0, q⟩ := h
    have hr_is_number := hr.mono (show 1 ≤ 5 by decide)
    have hr_sparing := hr
    refine ⟨_, (pss_one (ps_ret (pe_and (pe_call G_is_number hr_is_number (by rfl) T.m_is_number T.k_is_number T.b_is_number .nil pass0 (pa_cons (pv 1) (pa_cons pe_int pa_nil))) (pe_one (pe_callB (anyK K) (by rfl) T.z_any (by decide +kernel) (pa_cons (pe_lc (own := [("low", 2), ("high", 3)]) (by rfl) nd (pi_seqK K (pe_call G_sparing hr_sparing (by rfl) T.m_sparing T.k_sparing T.b_sparing .nil pass0 (pa_cons (pv 0) (pa_cons pe_int pa_nil)))) (blkOk_by (N := N_shows_sparing) (own := [("low", 2), ("high", 3)]) (sc := defScope s_shows_sparing) (by decide +kernel)) (fun _ _ _ _ _ => (pg_tupK K 2 (by rfl) (pgs_cons (pg_name (i := 2) nd rfl (Or.inl rfl)) (pgs_cons (pg_name (i := 3) nd rfl (Or.inl rfl)) pgs_nil)))) (fun _ _ _ _ _ => pts_nil) (fun _ _ _ _ _ => (pe_chain op_le op_le (pv 2) (pv 1) (pv 3)))) pa_nil)))))), ?_⟩
    have est : L2.start N_shows_sparing [v, .int n] = [some v, some (.int n), none, none] := rfl
    rw [est]
    clear est
    walk_at "un"
    refine ⟨_, rfl, .int n, .int n, 0, rfl, .int _, ?_⟩
    rw [show numD (.int n) 0 = true from decide_eq_true n0]
    refine ⟨_, rfl, iteT ?_⟩
    refine lc_bindL ?_
    refine ⟨_, rfl, t, h, v, 0, rfl, hD, hk, fun l p ws H1 Gl ll f1 t1 hW x1 => ?_⟩
    have W := dpa_le (wo_le _ _) _ _ (hW [] (by simp))
    have lw := dpa_len W
    rw [List.length_map] at lw
    refine z_lcL1 (K := K) (xs := ws) (fun R r => r p H1 (Ex.refl _ _) (SqL.of t1)) (by omega) (fun i => (((inB l n).map V.bl)[i]?).getD .non) (fun i y H' hy x2 N hN => ?_) (fun D H' hD' hz x2 => ?_)
    · obtain ⟨d, hd, hDd⟩ := dpa_get' W hy
      rw [List.getElem?_map] at hd
      obtain ⟨r, hrr, rfl⟩ := Option.map_eq_some_iff.mp hd
      obtain ⟨pa, qs, rfl, hpS, hpA⟩ := dp_sq (t := true) (ds := [.int r.1, .int r.2]) (dp_le x2.le0 _ _ hDd)
      cases hpA with | @cons z0 _ _ _ i0 hpA => cases hpA with | @cons z1 _ _ _ i1 hpA =>
      cases hpA
      obtain rfl := dp_int i0
      obtain rfl := dp_int i1
      refine ⟨pa, _, rfl, hpS, rfl, _, _, rfl, _, _, rfl, rfl, rfl, ?_⟩
      have hv := hN H' (Ex.refl _ _)
      rw [List.getElem?_map, show (inB l n)[i]? = some (decide (r.1 ≤ n) && decide (n ≤ r.2)) by unfold inB; rw [List.getElem?_map, hrr]; rfl] at hv
      walk_at "un"
      have hv' : N (.bl (decide (r.1 ≤ n) && decide (n ≤ r.2))) H' := hv
      refine ⟨_, rfl, _, rfl, _, _, rfl, rfl, ?_⟩
      refine ⟨_, rfl, ?_⟩
      refine ite2 (fun c => ?_) (fun c => ?_)
      · rw [c, Bool.true_and] at hv'
        exact ⟨_, rfl, _, _, rfl, rfl, hv'⟩
      · have c' := Bool.eq_false_iff.mpr c
        rw [c', Bool.false_and] at hv'
        exact hv'
    have e : (List.range ws.length).map (fun i => (((inB l n).map V.bl)[i]?).getD .non) = (inB l n).map V.bl := by
      have el : ((inB l n).map V.bl).length = ws.length := by unfold inB; rw [List.length_map, List.length_map, lw]
      rw [← el]
      exact range_getD _
    rw [e] at hz
    exact ⟨D, inB l n, rfl, SqL.of hz, q l H' Gl (x1.trans x2)⟩
def spShowY (K : PySem.W.Frag) : Sp := fun vs H Q _ => ∃ (t : Bool) (h : Hill) (v w : V) (d : PyData), vs = [v, w] ∧ Dp K H v (h.dat t) ∧ HillOk h ∧ PaperD h d ∧ Dp K H w d ∧ ∀ H', Ex [] H H' → Q (.bl true) H'
theorem all_rows {h : Hill} (hk : HillOk h) {l : List Int} (lo : h.Lows l) (G0 : Gaps (gcdI h) (Lossy h 0) []) {l' : List (Int × Int)} {rs : List (Nat × Nat)} (er : ∀ a b, a < h.needs.length → b < l.length → (a, b) ∈ rs) (G : Gaps (gcdI h) (OnArc (gcdI h) (rs.map (arcR h l))) l') : l' = [] := by
  cases l' with
  | nil => rfl
  | cons p l' =>
    exfalso
    obtain ⟨p0, p1, p2⟩ := G.in_ p (by simp)
    refine (G.eq p.1 p0 (by omega)).mp ⟨p, by simp, Int.le_refl _, p1⟩ ?_
    have ly : Lossy h 0 p.1 := Classical.byContradiction fun z => by
      obtain ⟨r, hr, _⟩ := (G0.eq p.1 p0 (by omega)).mpr z
      cases hr
    obtain ⟨a, ha, k, k1, k2⟩ := (onarc_iff hk lo p.1).mpr ly
    obtain ⟨low, hl, j, hj, rfl⟩ := arcs_mem.mp ha
    obtain ⟨b, hb, eb⟩ := List.getElem_of_mem hl
    have eD : arcR h l (j, b) = (low - h.needN 0 (j + 1), low + h.lostZ low - 1 - h.needN 0 (j + 1)) := by
      unfold arcR
      rw [List.getD_eq_getElem?_getD, List.getElem?_eq_getElem hb, eb]
      rfl
    exact ⟨_, List.mem_map.mpr ⟨(j, b), er j b hj hb, rfl⟩, k, by rw [eD]; exact k1, by rw [eD]; exact k2⟩
/-- all pairs, as numbers -/
def pairsN (n m : Nat) : List (Nat × Nat) := (List.range n).flatMap fun a => (List.range m).map fun b => (a, b)
theorem pairs_eq (n m : Nat) : pairsD n m = (pairsN n m).map duD := by
  unfold pairsD rowsUp pairsN
  rw [List.range_zero, List.map_nil, List.append_nil, List.map_flatMap]
  congr 1
  funext a
  rw [List.map_map]
  rfl
theorem pairs_len (n m : Nat) : (pairsN n m).length = n * m := by
  have e := rowsUp_len (fun a b => .tuple [.int (a : Nat), .int (b : Nat)]) m n 0
  have e2 : (pairsD n m).length = _ := e
  rw [pairs_eq, List.length_map] at e2
  omega
theorem pairs_mem {n m a b : Nat} : (a, b) ∈ pairsN n m ↔ a < n ∧ b < m := by
  unfold pairsN
  constructor
  · intro h
    obtain ⟨a', ha, hb⟩ := List.mem_flatMap.mp h
    obtain ⟨b', hb', e⟩ := List.mem_map.mp hb
    cases e
    exact ⟨List.mem_range.mp ha, List.mem_range.mp hb'⟩
  · intro ⟨h1, h2⟩
    exact List.mem_flatMap.mpr ⟨a, List.mem_range.mpr h1, List.mem_map.mpr ⟨b, List.mem_range.mpr h2, rfl⟩⟩
theorem ok_shows_paper (T : Txt K mg) : FnOk P w K mg base CX0 7 T.a_shows_paper T.d_shows_paper P_shows_paper (spShowY K) := by
  have nd := sc_shows_paper.nd
  have G_is_tuple_of := ok_is_tuple_of (P := P) (w := w) (base := base) T
  have G_shows_spilling := ok_shows_spilling (P := P) (w := w) (base := base) T
  have G_shows_sparing := ok_shows_sparing (P := P) (w := w) (base := base) T
  refine T.F_shows_paper.ok sc_shows_paper (fun vs H Q E h => ?_) (fun cdv A outer s H vs Q E hr h => ?_)
  · obtain ⟨t, h, v, w, d, rfl, _⟩ := h
    rfl
  · obtain ⟨t, h, v, w, d, rfl, hD, hk, pd, hW, q⟩ := h
    have hr_is_tuple_of := hr.mono (show 1 ≤ 6 by decide)
    have hr_shows_spilling := hr.mono (show 5 ≤ 6 by decide)
    have hr_shows_sparing := hr
    refine ⟨_, (pss_cons (ps_if (pt_not (pt_val (pe_call G_is_tuple_of hr_is_tuple_of (by rfl) T.m_is_tuple_of T.k_is_tuple_of T.b_is_tuple_of .nil pass0 (pa_cons (pv 1) (pa_cons pe_int pa_nil))))) (pss_one (ps_ret pe_bl)) pss_nil)
      (pss_cons (ps_if (pt_cmpR op_eq (pe_ix (ixK K) (pv 1) pe_int (fun _ _ => rfl)) pe_str (nomark _)) (pss_one (ps_ret (pe_call G_shows_sparing hr_shows_sparing (by rfl) T.m_shows_sparing T.k_shows_sparing T.b_shows_sparing .nil pass0 (pa_cons (pv 0) (pa_cons (pe_ix (ixK K) (pv 1) pe_int (fun _ _ => rfl)) pa_nil))))) pss_nil)
      (pss_one (ps_ret (pe_and (pe_cmpR op_eq (pe_ix (ixK K) (pv 1) pe_int (fun _ _ => rfl)) pe_str (nomark _)) (pe_one (pe_call G_shows_spilling hr_shows_spilling (by rfl) T.m_shows_spilling T.k_shows_spilling T.b_shows_spilling .nil pass0 (pa_cons (pv 0) (pa_cons (pe_ix (ixK K) (pv 1) pe_int (fun _ _ => rfl)) pa_nil))))))))), ?_⟩
    have est : L2.start N_shows_paper [v, w] = [some v, some w] := rfl
    rw [est]
    clear est
    rcases pd with ⟨y0, y1, l', rfl, Gl⟩ | ⟨lows, rfl, lo, G0⟩
    · obtain ⟨a, xs, rfl, hS, hA⟩ := dp_sq (t := true) (ds := [.str "spares", .int y0]) hW
      cases hA with | @cons v0 _ _ _ k0 hA => cases hA with | @cons v1 _ _ _ k1 hA =>
      cases hA
      cases k0
      obtain rfl := dp_int k1
      walk_at "un"
      refine ⟨_, rfl, .ref a, _, 2, rfl, hW, ⟨_, rfl, iteF ?_⟩⟩
      refine ⟨_, rfl, z_ix (.inr hS) (i := 0) (v := .str (Str.ofString "spares")) rfl ⟨rfl, _, rfl, ?_⟩⟩
      rw [decide_eq_true rfl]
      refine iteT ⟨_, rfl, _, rfl, z_ix (.inr hS) (i := 1) (v := .int y0) rfl ?_⟩
      obtain ⟨p0, p1, p2⟩ := Gl.in_ _ (List.mem_cons_self)
      refine ⟨t, h, v, y0, rfl, hD, hk, p0, fun l2 G Gl2 x => ?_⟩
      rw [Gl2.uniq Gl, show ((inB ((y0, y1) :: l') y0).any id) = true by
        show ((decide (y0 ≤ y0) && decide (y0 ≤ y1)) || _) = true
        rw [decide_eq_true (Int.le_refl y0), decide_eq_true p1]
        rfl]
      exact q G x
    · obtain ⟨a, xs, rfl, hS, hA⟩ := dp_sq (t := true) (ds := [.str "spills", .list (pairsD h.needs.length lows.length)]) hW
      cases hA with | @cons v0 _ _ _ k0 hA => cases hA with | @cons v1 _ _ _ k1 hA =>
      cases hA
      cases k0
      walk_at "un"
      refine ⟨_, rfl, .ref a, _, 2, rfl, hW, ⟨_, rfl, iteF ?_⟩⟩
      refine ⟨_, rfl, z_ix (.inr hS) (i := 0) (v := .str (Str.ofString "spills")) rfl ⟨rfl, _, rfl, ?_⟩⟩
      rw [decide_eq_false (show ¬ V.str (Str.ofString "spills") = V.str (Str.ofString "spares") from fun z => by injection z with z; exact absurd z (by decide))]
      refine iteF ⟨_, rfl, z_ix (.inr hS) (i := 0) (v := .str (Str.ofString "spills")) rfl ⟨rfl, _, rfl, ?_⟩⟩
      rw [decide_eq_true rfl]
      refine iteT ⟨_, rfl, _, rfl, z_ix (.inr hS) (i := 1) (v := v1) rfl ?_⟩
      have ll := Hill.lows_len hk.L0 hk.nn hk.op hk.dr hk.m0 lo
      have hL2 := hk.y2
      have hN2 := hk.n2
      refine ⟨t, h, v, v1, pairsN h.needs.length lows.length, lows, rfl, hD, hk, lo, by rw [← pairs_eq]; exact k1, fun r hr' => pairs_mem.mp hr', ?_, fun l' G Gl x => ?_⟩
      · rw [pairs_len]
        have hL3 : h.L ≤ 20 := hL2
        have := Nat.mul_le_mul hN2 (show lows.length ≤ 20 by omega)
        omega
      · rw [all_rows hk lo G0 (fun a b ha hb => pairs_mem.mpr ⟨ha, hb⟩) Gl]
        exact q G x
end
end Z64
set_option Elab.async false
set_option linter.all false
set_option maxHeartbeats 2000000
namespace Hz
open PySem PySem.Spec PyProof.Rows L2
/-- data that may be compared, no deeper than n -/
def dpc : Nat → PyData → Prop
  | 0, .list _ => False
  | 0, .tuple _ => False
  | n + 1, .list ds => ∀ d ∈ ds, dpc n d
  | n + 1, .tuple ds => ∀ d ∈ ds, dpc n d
  | _, .dict _ => False
  | _, .str s => PyData.canLay0 (.str s) = true
  | _, _ => True
theorem lay_all : ∀ {ds : List PyData}, (∀ d ∈ ds, PyData.canLay0 d = true) → PyData.canLayAll0 ds = true
  | [], _ => rfl
  | d :: ds, h => by
    show (PyData.canLay0 d && PyData.canLayAll0 ds) = true
    rw [h d (by simp), lay_all fun e he => h e (List.mem_cons_of_mem _ he)]
    rfl
theorem depth_all {n : Nat} : ∀ {ds : List PyData}, (∀ d ∈ ds, PyData.depth d ≤ n) → PyData.depthAll ds ≤ n
  | [], _ => Nat.zero_le _
  | d :: ds, h => by
    have := h d (by simp)
    have := depth_all (n := n) fun e he => h e (List.mem_cons_of_mem _ he)
    show max (PyData.depth d) (PyData.depthAll ds) ≤ n
    omega
theorem eqv_all : ∀ {ds : List PyData}, (∀ d ∈ ds, PyData.eqv d d = true) → PyData.eqvAll ds ds = true
  | [], _ => rfl
  | d :: ds, h => by
    show (PyData.eqv d d && PyData.eqvAll ds ds) = true
    rw [h d (by simp), eqv_all fun e he => h e (List.mem_cons_of_mem _ he)]
    rfl
theorem dpc_lay : ∀ {n : Nat} {d : PyData}, dpc n d → PyData.canLay0 d = true ∧ PyData.depth d ≤ n + 1 ∧ PyData.eqv d d = true
  | _, .none, _ => ⟨rfl, Nat.zero_le _, rfl⟩
  | _, .bool b, _ => ⟨rfl, Nat.zero_le _, by cases b <;> rfl⟩
  | _, .int i, _ => ⟨rfl, Nat.zero_le _, by show decide (i = i) = true; exact decide_eq_true rfl⟩
  | 0, .str s, h => ⟨h, Nat.zero_le _, by show decide (s = s) = true; exact decide_eq_true rfl⟩
  | _ + 1, .str s, h => ⟨h, Nat.zero_le _, by show decide (s = s) = true; exact decide_eq_true rfl⟩
  | 0, .list ds, h => by cases (show False from h)
  | 0, .tuple ds, h => by cases (show False from h)
  | n + 1, .list ds, h => by
    have h' : ∀ d ∈ ds, dpc n d := h
    refine ⟨lay_all fun d hd => (dpc_lay (h' d hd)).1, ?_, eqv_all fun d hd => (dpc_lay (h' d hd)).2.2⟩
    have := depth_all (n := n + 1) fun d hd => (dpc_lay (h' d hd)).2.1
    show PyData.depthAll ds + 1 ≤ _
    omega
  | n + 1, .tuple ds, h => by
    have h' : ∀ d ∈ ds, dpc n d := h
    refine ⟨lay_all fun d hd => (dpc_lay (h' d hd)).1, ?_, eqv_all fun d hd => (dpc_lay (h' d hd)).2.2⟩
    have := depth_all (n := n + 1) fun d hd => (dpc_lay (h' d hd)).2.1
    show PyData.depthAll ds + 1 ≤ _
    omega
  | 0, .dict _, h => by cases (show False from h)
  | _ + 1, .dict _, h => by cases (show False from h)
theorem dpc_shaped {n : Nat} {d : PyData} (h : dpc n d) (l : n ≤ 60) : SeqAt.shaped d = true := by
  obtain ⟨a, b, _⟩ := dpc_lay h
  unfold SeqAt.shaped
  rw [a, decide_eq_true (show d.depth ≤ 64 by omega)]
  rfl
/-- two of the same datum are not unlike -/
theorem z_ne {K : PySem.W.Frag} {H : Hp} {x y : V} {d : PyData} {Q : VK} {n : Nat} (hx : Dp K H x d) (hy : Dp K H y d) (h : dpc n d) (l : n ≤ 60) (q : Q (.bl false) H) : rNeD K x y H Q := by
  refine ⟨d, d, hx, hy, dpc_shaped h l, dpc_shaped h l, ?_⟩
  rw [(dpc_lay h).2.2]
  exact q
theorem z_eq {K : PySem.W.Frag} {H : Hp} {x y : V} {d : PyData} {Q : VK} {n : Nat} (hx : Dp K H x d) (hy : Dp K H y d) (h : dpc n d) (l : n ≤ 60) (q : Q (.bl true) H) : rEqD K x y H Q := by
  refine ⟨d, d, hx, hy, dpc_shaped h l, dpc_shaped h l, ?_⟩
  rw [(dpc_lay h).2.2]
  exact q
theorem dpc_map {α : Type} {n : Nat} {l : List α} {f : α → PyData} (h : ∀ a ∈ l, dpc n (f a)) : dpc (n + 1) (.list (l.map f)) := fun d hd => by
  obtain ⟨a, ha, rfl⟩ := List.mem_map.mp hd
  exact h a ha
theorem dpc_mapT {α : Type} {n : Nat} {l : List α} {f : α → PyData} (h : ∀ a ∈ l, dpc n (f a)) : dpc (n + 1) (.tuple (l.map f)) := fun d hd => by
  obtain ⟨a, ha, rfl⟩ := List.mem_map.mp hd
  exact h a ha
end Hz
set_option Elab.async false
set_option linter.all false
namespace Hz
namespace Hill
/-- a hill has its list of lows -/
theorem lows_ex {h : Hill} (hd : 0 < h.drops) : ∃ l, h.Lows l := by
  classical
  refine ⟨((List.range h.drops.toNat).map (fun n : Nat => (n : Int))).filter (fun x => decide (0 < h.lostZ x ∧ ∃ d, h.isOpen d = true ∧ x = (h.given d + 1) % h.drops)), ?_, fun x => ?_⟩
  · refine List.Pairwise.filter _ ?_
    rw [List.pairwise_map]
    exact List.pairwise_lt_range.imp fun h => by omega
  · rw [List.mem_filter, List.mem_map]
    constructor
    · rintro ⟨⟨n, hn, rfl⟩, p⟩
      rw [List.mem_range] at hn
      have p := of_decide_eq_true p
      exact ⟨by omega, by omega, p.1, p.2⟩
    · rintro ⟨a, b, c, d⟩
      exact ⟨⟨x.toNat, List.mem_range.mpr (by omega), by omega⟩, decide_eq_true ⟨c, d⟩⟩
end Hill
end Hz
set_option Elab.async false
set_option linter.all false
set_option maxRecDepth 100000
set_option maxHeartbeats 8000000
namespace Z64
open PySem PySem.Spec PyProof.Rows L2 Hz LamX NdefX
section
variable {P : Program} {w : World} {K : PySem.W.Frag} {mg : Str → Option Value} {base : Heap}
local macro_rules | `(tactic| walk_at "un") => `(tactic| try dsimp only [tSeq, tIfS, tRet, tAsg, tDrop, tOr, tAnd, tNot, tAndV, tOrV, tNotV, tTest, tB, tOp, tUn, tCB, tCons, tNil, tC, tNext, tIf, tChain, gName, tPar, tPar3, tTup, tLst])
local macro_rules | `(tactic| walk_at "ut") => `(tactic| try dsimp only [tNil, tCons, tC, List.append_nil, List.cons_append, List.nil_append])
theorem cut_last (xs : List V) (n : Nat) (h : xs.length = n + 1) : cutV xs none (some (-1)) = xs.take n := by
  unfold cutV
  rw [HT.sIx_none, List.drop_zero, Nat.sub_zero]
  unfold HT.sIx
  rw [h]
  congr 1
  show (if (-1 : Int) < 0 then ((-1 : Int) + ((n + 1 : Nat) : Int)).toNat else _) = n
  rw [if_pos (by decide)]
  omega
/-- the last need, more by r -/
def lastH (h : Hill) (r : Int) : Hill := ⟨h.year, h.needs.take (h.needs.length - 1) ++ [h.need (h.needs.length - 1) + r], h.most⟩
theorem last_len {h : Hill} (hk : HillOk h) (r : Int) : (lastH h r).needs.length = h.needs.length := by
  show (h.needs.take (h.needs.length - 1) ++ [_]).length = _
  have := hk.n1
  rw [List.length_append, List.length_take, List.length_singleton]
  omega
theorem last_ok {h : Hill} (hk : HillOk h) {r : Int} (r0 : 0 ≤ r) (rb : ∀ m ∈ h.needs, m + r ≤ 10 ^ 14) : HillOk (lastH h r) := ⟨hk.y1, hk.y2, hk.d0, hk.op, hk.dr, by rw [last_len hk]; exact hk.n1, by rw [last_len hk]; exact hk.n2, fun m hm => by
  rcases List.mem_append.mp hm with z | z
  · exact hk.n0 m (List.mem_of_mem_take z)
  · rw [List.mem_singleton] at z
    have n1 := hk.n1
    have e : h.needs[h.needs.length - 1]? = some (h.need (h.needs.length - 1)) := by
      unfold Hill.need
      rw [List.getElem?_eq_getElem (by omega)]
      rfl
    have mm := List.mem_of_getElem? e
    have := hk.n0 _ mm
    have := rb _ mm
    omega, hk.m0, hk.m1⟩
def spCN (K : PySem.W.Frag) : Sp := fun vs H Q _ => ∃ (b : Addr) (n : Nat), vs = [.ref b] ∧ Bx b n H ∧ n ≤ 10 ^ 9 ∧
  ∀ (h : Hill) v H', HillOk h → h.year.length ≤ 5 → h.needs.length ≤ 3 → Dp K (wo [b] H') v (h.dat true) → Ex [b] H H' → Bx b (n + 5200) H' → Q v H'
theorem ok_common_nest (T : Txt K mg) : FnOk P w K mg base CX0 8 T.a__law_common_nest T.d__law_common_nest P__law_common_nest (spCN K) := by
  have nd := sc__law_common_nest.nd
  have G__law_nest := ok_nest (P := P) (w := w) (base := base) T
  have G__law_wide := ok_wide (P := P) (w := w) (base := base) T
  have G__law_whole := ok_whole (P := P) (w := w) (base := base) T
  have G__law_take := ok_Tb (P := P) (w := w) (base := base) T
  refine T.F__law_common_nest.ok sc__law_common_nest (fun vs H Q E h => ?_) (fun cdv A outer s H vs Q E hr h => ?_)
  · obtain ⟨b, n, rfl, _⟩ := h
    rfl
  · obtain ⟨b, n, rfl, hB, hn, q⟩ := h
    have hr__law_nest := hr
    have hr__law_wide := hr
    have hr__law_whole := hr.mono (show 1 ≤ 7 by decide)
    have hr__law_take := hr.mono (show 6 ≤ 7 by decide)
    have hn' : n ≤ 1000000000 := hn
    refine ⟨_, (pss_cons (ps_set (i := 1) nd rfl (Or.inl rfl) (pe_call G__law_nest hr__law_nest (by rfl) T.m__law_nest T.k__law_nest T.b__law_nest .nil pass0 (pa_cons (pv 0) (pa_cons pe_int (pa_cons pe_int (pa_cons (pe_call G__law_wide hr__law_wide (by rfl) T.m__law_wide T.k__law_wide T.b__law_wide .nil pass0 (pa_cons (pv 0) pa_nil)) pa_nil))))))
      (pss_cons (ps_par (i := 2) (j := 3) (by rfl) nd rfl rfl (by decide) rfl rfl (pa_cons (pe_call G__law_whole hr__law_whole (by rfl) T.m__law_whole T.k__law_whole T.b__law_whole .nil pass0 (pa_cons (pv 1) pa_nil)) (pa_cons (pe_call G__law_take hr__law_take (by rfl) T.m__law_take T.k__law_take T.b__law_take .nil pass0 (pa_cons (pv 0) (pa_cons pe_int pa_nil))) pa_nil)) (by rfl))
      (pss_cons (ps_set (i := 4) nd rfl (Or.inl rfl) (pe_ix (ixK K) (pe_lst (pa_cons pe_int (pa_cons (pv 2) (pa_cons (pe_callB (call_max2 rfl) (by rfl) T.z_max (by decide +kernel) (pa_cons pe_int (pa_cons (pe_op op_fdivW (pv 2) (pe_op op_add pe_int (pe_call G__law_take hr__law_take (by rfl) T.m__law_take T.k__law_take T.b__law_take .nil pass0 (pa_cons (pv 0) (pa_cons pe_int pa_nil))))) pa_nil))) pa_nil)))) (pv 3) (fun _ _ => rfl)))
      (pss_one (ps_ret (pe_tup (pa_cons (pe_ix (ixK K) (pv 1) pe_int (fun _ _ => rfl)) (pa_cons (pe_op (catTK K) (pe_slice (slK K) (pe_ix (ixK K) (pv 1) pe_int (fun _ _ => rfl)) po_none (po_some (pe_un un_neg pe_int))) (pe_tup (pa_cons (pe_op op_add (pe_ix (ixK K) (pe_ix (ixK K) (pv 1) pe_int (fun _ _ => rfl)) (pe_un un_neg pe_int) (fun _ _ => rfl)) (pe_op op_mod (pe_op op_sub pe_int (pe_callB (sumK K) (by rfl) T.z_sum (by decide +kernel) (pa_cons (pe_ix (ixK K) (pv 1) pe_int (fun _ _ => rfl)) pa_nil))) (pv 4))) pa_nil))) (pa_cons (pe_ix (ixK K) (pv 1) pe_int (fun _ _ => rfl)) pa_nil))))))))), ?_⟩
    have est : L2.start N__law_common_nest [V.ref b] = [some (.ref b), none, none, none, none] := rfl
    rw [est]
    clear est
    walk_at "un"
    try dsimp only [List.set_cons_zero, List.set_cons_succ]
    refine ⟨_, rfl, _, rfl, b, _, rfl, hB, by omega, fun z H1 z1 z2 x1 B1 => ?_⟩
    refine ⟨b, _, 5, 3, z, rfl, B1, by omega, by decide, by decide, by decide, by decide, z1, z2, fun h v H2 hk hnb hD x2 B2 => ?_⟩
    have n1 := hk.n1
    have dr := hk.dr
    have t10 : (10 : Int) ^ 10 = 10000000000 := by decide
    have t14 : (10 : Int) ^ 14 = 100000000000000 := by decide
    have db : h.drops ≤ 200000000000 := by
      have := hnb.drops
      omega
    have x02 := x1.trans x2
    try dsimp only [List.set_cons_zero, List.set_cons_succ]
    refine ⟨_, rfl, h, v, rfl, dp_le (wo_le _ _) _ _ hD, hk, fun H3 x3 => ?_⟩
    refine ⟨_, rfl, b, 3, _, rfl, B2.ex x3 (by simp), by omega, by decide, by decide, fun w H4 w0 w1 x4 B4 => ⟨_, _, rfl, ?_⟩⟩
    try dsimp only [List.set_cons_zero, List.set_cons_succ]
    have t60 : (10 : Int) ^ 60 = 1000000000000000000000000000000000000000000000000000000000000 := by decide
    refine ⟨_, rfl, _, rfl, _, rfl, b, 4, _, rfl, B4, by omega, by decide, by decide, fun r H5 r0 r1 x5 B5 => ⟨_, _, rfl, rfl, _, _, rfl, rfl, divw_of (by omega) (by omega), ?_⟩⟩
    refine ⟨_, _, rfl, show 3 ≤ sizeLine by decide, fun p hp => ?_⟩
    try dsimp only
    have q0 : 0 ≤ h.drops / (1 + r) := Int.ediv_nonneg (by omega) (by omega)
    have q1 : h.drops / (1 + r) ≤ h.drops := Int.ediv_le_self _ (by omega)
    obtain ⟨pt, ep⟩ : ∃ pt : Int, pt = if h.drops / (1 + r) > 1 then h.drops / (1 + r) else 1 := ⟨_, rfl⟩
    have p1' : 1 ≤ pt ∧ pt ≤ h.drops := by
      rw [ep]
      split <;> omega
    rw [← ep]
    clear ep q0 q1
    have x6 := Ex.new (B := []) (o := HO.lst [.int 1, .int h.drops, .int pt]) hp
    obtain ⟨part, p1, ea⟩ : ∃ part : Int, (1 ≤ part ∧ part ≤ h.drops) ∧ atI [V.int 1, V.int h.drops, V.int pt] w = some (.int part) := by
      have : w = 0 ∨ w = 1 ∨ w = 2 := by omega
      rcases this with rfl | rfl | rfl
      · exact ⟨1, ⟨by omega, by omega⟩, rfl⟩
      · exact ⟨h.drops, ⟨by omega, by omega⟩, rfl⟩
      · exact ⟨pt, p1', rfl⟩
    refine ⟨_, rfl, z_ix (.inl (SqL.of upd_same)) ea ?_⟩
    have e46 : Ex [b] H4 (upd H5 p (.lst [.int 1, .int h.drops, .int pt])) := x5.trans x6.nil
    have B6 := B5.ex x6 (by simp)
    clear x6
    revert e46 B6
    generalize upd H5 p (.lst [.int 1, .int h.drops, .int pt]) = H6
    intro e46 B6
    have D6 : Dp K (wo [b] H6) v (h.dat true) := dp_le ((x3.nil.trans x4).trans e46).wo _ _ hD
    obtain ⟨va, ya, na, ys, ns, rfl, hSv, hyS, hyA, hnS, hnA, ly, ln⟩ := hill_parts (dp_le (wo_le _ _) _ _ D6)
    obtain rfl := dpa_ints hnA
    obtain ⟨k, ek⟩ : ∃ k, h.needs.length = k + 1 := ⟨h.needs.length - 1, by omega⟩
    refine ⟨_, rfl, z_ix (.inr hSv) (i := 0) (v := .ref ya) rfl ?_⟩
    refine ⟨_, rfl, z_ix (.inr hSv) (i := 1) (v := .ref na) rfl ⟨_, rfl, _, rfl, z_sl (t := true) (show SqX true K H6 na _ from hnS) fun q5 G5 y5 t5 => ?_⟩⟩
    rw [show (-1 : Int) = -1 from rfl, cut_last _ k (by rw [List.length_map, ek])] at t5
    have T5 := le_t y5.le0 hSv
    have M5 := le_t y5.le0 hnS
    have lst : (h.needs.map V.int)[(h.needs.map V.int).length - 1]? = some (.int (h.need k)) := by
      rw [List.length_map, ek, Nat.add_sub_cancel, List.getElem?_map, List.getElem?_eq_getElem (by omega)]
      unfold Hill.need
      rw [List.getElem?_eq_getElem (by omega)]
      rfl
    refine ⟨_, rfl, z_ix (.inr T5) (i := 1) (v := .ref na) rfl ⟨_, rfl, z_ix (.inr M5) (atI_m1 lst) ?_⟩⟩
    refine ⟨_, rfl, z_ix (.inr T5) (i := 1) (v := .ref na) rfl ⟨na, h.needs, rfl, .inr M5, _, _, rfl, rfl, _, rfl, _, _, rfl, rfl, (by omega), _, _, rfl, rfl, ?_⟩⟩
    obtain ⟨rr, err⟩ : ∃ rr : Int, rr = (0 - h.needs.sum) % part := ⟨_, rfl⟩
    have rr0 : 0 ≤ rr ∧ rr < part := by
      rw [err]
      exact ⟨Int.emod_nonneg _ (by omega), Int.emod_lt_of_pos _ (by omega)⟩
    try dsimp only
    rw [← err]
    clear err
    refine ⟨show 1 ≤ sizeLine by decide, fun q6 hq6 => ?_⟩
    have y6 := Ex.new (B := []) (o := HO.tup [.int (h.need k + rr)]) hq6
    refine z_catT (le_t y6.le0 t5) (SqT.of upd_same) (by rw [List.length_take, List.length_map]; exact Nat.le_trans (show _ ≤ 20 by have := hk.n2; simp; omega) (by decide)) fun q7 G7 y7 k7 => ?_
    have y57 := (y5.trans y6).trans y7
    have T7 := le_t y57.le0 hSv
    refine ⟨_, rfl, z_ix (.inr T7) (i := 2) (v := .int h.most) rfl ⟨show 3 ≤ sizeLine by decide, fun q8 hq8 => ?_⟩⟩
    have y8 := Ex.new (B := []) (o := HO.tup [.ref ya, .ref q7, .int h.most]) hq8
    have hk1 : HillOk (lastH h rr) := last_ok hk rr0.1 (fun m hm => by have := hnb.needs m hm; omega)
    have y58 := y57.trans y8
    have dL : Dp K (upd G7 q8 (HO.tup [.ref ya, .ref q7, .int h.most])) (.ref q8) ((lastH h rr).dat true) :=
      .tup (SqT.of upd_same) (.cons (.tup (le_t y58.le0 hyS) (dpa_le y58.le0 _ _ hyA)) (.cons (.tup (le_t y8.le0 k7) (by
        show DpAll K _ ((h.needs.map V.int).take k ++ [V.int (h.need k + rr)]) ((h.needs.take (h.needs.length - 1) ++ [h.need (h.needs.length - 1) + rr]).map PyData.int)
        rw [ek, Nat.add_sub_cancel, ← List.map_take, show ((h.needs.take k).map V.int ++ [V.int (h.need k + rr)]) = (h.needs.take k ++ [h.need k + rr]).map V.int by rw [List.map_append]; rfl]
        exact dpa_of_ints _)) (.cons (.int _) .nil)))
    have B8 := B6.ex y58 (by simp)
    have L8 : Dp K (wo [b] (upd G7 q8 (HO.tup [.ref ya, .ref q7, .int h.most]))) (.ref q8) ((lastH h rr).dat true) := B8.tup (tupD_hill _) dL
    have e08 : Ex [b] H (upd G7 q8 (HO.tup [.ref ya, .ref q7, .int h.most])) := x02.trans (x3.nil.trans (x4.trans (e46.trans y58.nil)))
    exact q _ _ _ hk1 (by have := hnb.year; show h.year.length ≤ 5; omega) (by have := hnb.ants; show (lastH h rr).needs.length ≤ 3; rw [last_len hk]; omega) L8 e08 (B8.mono (by omega))
end
end Z64
set_option Elab.async false
set_option linter.all false
set_option maxRecDepth 100000
set_option maxHeartbeats 8000000
namespace Z64
open PySem PySem.Spec PyProof.Rows L2 Hz LamX NdefX
section
variable {P : Program} {w : World} {K : PySem.W.Frag} {mg : Str → Option Value} {base : Heap}
local macro_rules | `(tactic| walk_at "un") => `(tactic| try dsimp only [tSeq, tIfS, tRet, tAsg, tDrop, tOr, tAnd, tNot, tAndV, tOrV, tNotV, tTest, tB, tOp, tUn, tCB, tCons, tNil, tC, tNext, tIf, tChain, gName, tPar, tPar3, tTup, tLst])
local macro_rules | `(tactic| walk_at "ut") => `(tactic| try dsimp only [tNil, tCons, tC, List.append_nil, List.cons_append, List.nil_append])
theorem for_D {w : TI} {g : TG} {tb : TS} {D : Ends} {σ : L2.St} {H : Hp} (h : ∀ D', D' = D → tFor w g tb D' σ H) : tFor w g tb D σ H := h D rfl
def spOC (K : PySem.W.Frag) : Sp := fun vs H Q _ => ∃ (h : Hill) (v : V) (a : Nat) (x : Int), vs = [v, .int a, .int x] ∧ Dp K H v (h.dat true) ∧ HillOk h ∧
  (∀ H', Ex [] H H' → Q .non H') ∧ ∀ (s : Now) p H', s.ant = a → lineAt h s % gcdI h = x % gcdI h → Dp K H' (.ref p) (s.dat true) → H p = none → Ex [] H H' → Q (.ref p) H'
theorem ok_of_class (T : Txt K mg) : FnOk P w K mg base CX0 3 T.a__law_of_class T.d__law_of_class P__law_of_class (spOC K) := by
  have nd := sc__law_of_class.nd
  have G_common := ok_common (P := P) (w := w) (base := base) T
  have G__law_given := ok_given (P := P) (w := w) (base := base) T
  refine T.F__law_of_class.ok sc__law_of_class (fun vs H Q E h => ?_) (fun cdv A outer s H vs Q E hr h => ?_)
  · obtain ⟨h, v, a, x, rfl, _⟩ := h
    rfl
  · obtain ⟨h, v, a, x, rfl, hD, hk, qn, qr⟩ := h
    have hr_common := hr
    have hr__law_given := hr
    have g0 := gcd_pos hk
    have y2 := hk.y2
    have L0 := hk.L0
    have hL2 : h.L ≤ 20 := hk.y2
    refine ⟨_, (pss_cons (ps_par (i := 3) (j := 4) (by rfl) nd rfl rfl (by decide) rfl rfl (pa_cons (pe_call G_common hr_common (by rfl) T.m_common T.k_common T.b_common .nil pass0 (pa_cons (pv 0) pa_nil)) (pa_cons (pe_ix (ixK K) (pv 0) pe_int (fun _ _ => rfl)) pa_nil)) (by rfl))
      (pss_cons (ps_for PassesOwn.never rfl (pi_range2W (by rfl) T.z_range (pa_cons (pe_callB (lenK K) (by rfl) T.z_len (by decide +kernel) (pa_cons (pv 4) pa_nil)) (pa_cons (pe_op op_mul pe_int (pe_callB (lenK K) (by rfl) T.z_len (by decide +kernel) (pa_cons (pv 4) pa_nil))) pa_nil))) (pg_name (i := 5) nd rfl (Or.inl rfl)) (pss_cons (ps_set (i := 6) nd rfl (Or.inl rfl) (pe_op op_mod (pe_op op_sub (pe_call G__law_given hr__law_given (by rfl) T.m__law_given T.k__law_given T.b__law_given .nil pass0 (pa_cons (pv 0) (pa_cons (pv 5) pa_nil))) (pv 2)) (pv 3)))
      (pss_one (ps_if (PW.pt (pw_and (pt_val (pe_ix (ixK K) (pe_ix (ixK K) (pv 4) (pe_op op_mod (pv 5) (pe_callB (lenK K) (by rfl) T.z_len (by decide +kernel) (pa_cons (pv 4) pa_nil))) (fun _ _ => rfl)) pe_int (fun _ _ => rfl))) (pw_and1 (pt_cmpR op_le (pv 6) (pe_ix (ixK K) (pv 0) pe_int (fun _ _ => rfl)) (nomark _))))) (pss_one (ps_ret (pe_tup (pa_cons (pv 5) (pa_cons (pv 1) (pa_cons (pv 6) pa_nil)))))) pss_nil))))
      (pss_one (ps_ret pe_non)))), ?_⟩
    have est : L2.start N__law_of_class [v, .int a, .int x] = [some v, some (.int a), some (.int x), none, none, none, none] := rfl
    rw [est]
    clear est
    walk_at "un"
    refine ⟨_, rfl, true, h, v, rfl, hD, hk, fun H1 x1 => ⟨_, rfl, z_ixD (dp_le x1.le0 _ _ hD) (Le.refl _) (j := 0) rfl rfl fun yv hy => ⟨_, _, rfl, ?_⟩⟩⟩
    try dsimp only [List.set_cons_zero, List.set_cons_succ]
    obtain ⟨ya, ys, rfl, hyS, hyA⟩ := dp_sq (show Dp K H1 yv (sq true (h.year.map fun d => sq true [.int d.1, .bool d.2])) from hy)
    have hL : ys.length = h.L := by have := dpa_len hyA; rw [List.length_map] at this; exact this
    refine for_D fun D' eD' => ?_
    walk_at "un"
    refine ⟨_, rfl, ya, ys, rfl, hyS.sq, _, rfl, ya, ys, rfl, hyS.sq, ?_⟩
    rw [hL]
    refine ⟨_, _, rfl, rfl, .inl ⟨by decide, by decide⟩, _, _, rfl, for_range (lo := (h.L : Int)) (n := (2 * (h.L : Int) - h.L).toNat) (fun i σ H' => ∃ (u5 u6 : Option V), σ = [some v, some (.int a), some (.int x), some (.int (gcdI h)), some (.ref ya), u5, u6] ∧ Ex [] H1 H') ⟨_, _, rfl, Ex.refl _ _⟩ (fun i σ H' hi hP => ?_) (fun σ H' hP => ?_)⟩
    · obtain ⟨u5, u6, rfl, x2⟩ := hP
      rw [eD']
      dsimp only [gName, List.set_cons_zero, List.set_cons_succ]
      walk_at "un"
      have x12 := x1.trans x2
      have hv := dp_le x12.le0 _ _ hD
      refine ⟨_, rfl, _, rfl, h, v, h.L + i, 0, (by rw [Int.zero_mul, Int.sub_zero, Int.natCast_add]; rfl), hv, hk, fun H3 x3 => ⟨_, rfl, _, _, rfl, rfl, _, rfl, _, _, rfl, rfl, g0, ?_⟩⟩
      rw [Int.zero_mul, Int.sub_zero]
      try dsimp only [List.set_cons_zero, List.set_cons_succ]
      have x23 := x2.trans x3
      have hy3 := dp_le x23.le0 _ _ hy
      have em : ((h.L : Int) + i) % (h.L : Int) = ((h.L + i) % h.L : Nat) := by rw [Int.natCast_emod, Int.natCast_add]
      refine ⟨_, rfl, _, rfl, _, rfl, ya, ys, rfl, .inr (le_t x23.le0 hyS), _, _, rfl, rfl, by omega, z_ixD hy3 (Le.refl _) (j := (h.L + i) % h.L) (by rw [hL]; exact em) (day_i (Nat.mod_lt _ L0)) fun dv hdv => z_ixD hdv (Le.refl _) (j := 1) rfl rfl fun bv hbv => ?_⟩
      obtain rfl := dp_bl hbv
      refine ⟨_, rfl, ?_⟩
      have next : ∀ (w5 w6 : Option V), ∃ (u5 u6 : Option V), [some v, some (.int a), some (.int x), some (.int (gcdI h)), some (.ref ya), w5, w6] = [some v, some (.int a), some (.int x), some (.int (gcdI h)), some (.ref ya), u5, u6] ∧ Ex [] H1 H3 := fun w5 w6 => ⟨w5, w6, rfl, x23⟩
      cases co : h.isOpen ((h.L + i) % h.L) with
      | false => exact iteF (next _ _)
      | true =>
        refine iteT ⟨_, rfl, _, rfl, z_ixD (dp_le x3.le0 _ _ hv) (Le.refl _) (j := 2) rfl rfl fun mv hm => ?_⟩
        obtain rfl := dp_int hm
        refine ⟨_, _, rfl, rfl, _, rfl, ?_⟩
        by_cases c : (h.given (h.L + i) - x) % gcdI h ≤ h.most
        · rw [decide_eq_true c]
          refine iteT ⟨_, rfl, _, rfl, _, rfl, show 3 ≤ sizeLine by decide, fun p hp => ?_⟩
          rw [show (h.L : Int) + i = ((h.L + i : Nat) : Int) by rw [Int.natCast_add]]
          refine qr ⟨h.L + i, a, (h.given (h.L + i) - x) % gcdI h⟩ p _ rfl ?_ (.tup (SqT.of upd_same) (dpa_of_ints [((h.L + i : Nat) : Int), (a : Int), (h.given (h.L + i) - x) % gcdI h])) ((x12.trans x3).free hp) ((x12.trans x3).trans (Ex.new hp))
          show (h.given (h.L + i) - (h.given (h.L + i) - x) % gcdI h) % gcdI h = x % gcdI h
          rw [Int.sub_emod, Int.emod_emod_of_dvd _ (Int.dvd_refl _), ← Int.sub_emod]
          congr 1
          omega
        · rw [decide_eq_false c]
          exact iteF (next _ _)
    · obtain ⟨u5, u6, rfl, x2⟩ := hP
      rw [eD']
      walk_at "un"
      exact qn _ (x1.trans x2)
end
end Z64
set_option Elab.async false
set_option linter.all false
set_option maxRecDepth 100000
set_option maxHeartbeats 8000000
namespace Z64
open PySem PySem.Spec PyProof.Rows L2 Hz LamX NdefX
section
variable {P : Program} {w : World} {K : PySem.W.Frag} {mg : Str → Option Value} {base : Heap}
local macro_rules | `(tactic| walk_at "un") => `(tactic| try dsimp only [tSeq, tIfS, tRet, tAsg, tDrop, tOr, tAnd, tNot, tAndV, tOrV, tNotV, tTest, tB, tOp, tUn, tCB, tCons, tNil, tC, tNext, tIf, tChain, gName, tPar, tPar3, tTup, tLst])
local macro_rules | `(tactic| walk_at "ut") => `(tactic| try dsimp only [tNil, tCons, tC, List.append_nil, List.cons_append, List.nil_append])
theorem dpa_sub {K : PySem.W.Frag} {H : Hp} : ∀ {xs : List V} {ds : List PyData} (d n : Nat), DpAll K H xs ds → DpAll K H ((xs.drop d).take n) ((ds.drop d).take n)
  | _, _, d, 0, _ => by rw [List.take_zero, List.take_zero]; exact .nil
  | _, _, d, n + 1, .nil => by rw [List.drop_nil, List.take_nil, List.drop_nil, List.take_nil]; exact .nil
  | _, _, 0, n + 1, .cons h t => .cons h (dpa_sub 0 n t)
  | _, _, d + 1, n + 1, .cons h t => dpa_sub d (n + 1) t
theorem in_cov {l : List (Int × Int)} {n : Int} : (inB l n).any id = true ↔ Cov l n := by
  unfold inB
  rw [List.any_map, List.any_eq_true]
  constructor
  · rintro ⟨p, hp, e⟩
    have e' : (decide (p.1 ≤ n) && decide (n ≤ p.2)) = true := e
    rw [Bool.and_eq_true] at e'
    exact ⟨p, hp, of_decide_eq_true e'.1, of_decide_eq_true e'.2⟩
  · rintro ⟨p, hp, a, b⟩
    refine ⟨p, hp, ?_⟩
    show (decide (p.1 ≤ n) && decide (n ≤ p.2)) = true
    rw [decide_eq_true a, decide_eq_true b]
    rfl
theorem due_iff {h : Hill} (hk : HillOk h) {a : Nat} {l : List (Int × Int)} (G : Gaps (gcdI h) (Lossy h a) l) {x y : Int} (e : y % gcdI h = x % gcdI h) : (inB l (x % gcdI h)).any id = true ↔ ¬ Lossy h a y := by
  have g0 := gcd_pos hk
  rw [in_cov, G.eq _ (Int.emod_nonneg _ (by omega)) (Int.emod_lt_of_pos _ g0), ← e, lossy_mod hk]
theorem z_neS {x : V} {H : Hp} {Q : VK} (h : scal x x = true) (q : Q (.bl false) H) : rNe x x H Q := ⟨h, by rw [decide_eq_true rfl]; exact q⟩
def spSR (K : PySem.W.Frag) : Sp := fun vs H Q _ => ∃ (h : Hill) (v : V) (a : Nat), vs = [v, .int a] ∧ Dp K H v (h.dat true) ∧ HillOk h ∧ a < h.needs.length ∧ ∀ H', Ex [] H H' → Q (.bl true) H'
theorem ok_sparing_right (T : Txt K mg) : FnOk P w K mg base CX0 7 T.a__law_sparing_right T.d__law_sparing_right P__law_sparing_right (spSR K) := by
  have nd := sc__law_sparing_right.nd
  have G_common := ok_common (P := P) (w := w) (base := base) T
  have G_sparing := ok_sparing (P := P) (w := w) (base := base) T
  have G__law_of_class := ok_of_class (P := P) (w := w) (base := base) T
  have G_next_loss := ok_next_loss (P := P) (w := w) (base := base) T
  have G_lost_in_all := ok_lost_in_all (P := P) (w := w) (base := base) T
  refine T.F__law_sparing_right.ok sc__law_sparing_right (fun vs H Q E h => ?_) (fun cdv A outer s H vs Q E hr h => ?_)
  · obtain ⟨h, v, a, rfl, _⟩ := h
    rfl
  · obtain ⟨h, v, a, rfl, hD, hk, al, q⟩ := h
    have hr_common := hr.mono (show 2 ≤ 6 by decide)
    have hr_sparing := hr.mono (show 5 ≤ 6 by decide)
    have hr__law_of_class := hr.mono (show 3 ≤ 6 by decide)
    have hr_next_loss := hr
    have hr_lost_in_all := hr
    have g0 := gcd_pos hk
    refine ⟨_, (pss_cons (ps_asg (pe_tup (pa_cons (pe_call G_common hr_common (by rfl) T.m_common T.k_common T.b_common .nil pass0 (pa_cons (pv 0) pa_nil)) (pa_cons (pe_call G_sparing hr_sparing (by rfl) T.m_sparing T.k_sparing T.b_sparing .nil pass0 (pa_cons (pv 0) (pa_cons (pv 1) pa_nil))) pa_nil))) (pg_tupK K 2 (by rfl) (pgs_cons (pg_name (i := 2) nd rfl (Or.inr rfl)) (pgs_cons (pg_name (i := 3) nd rfl (Or.inl rfl)) pgs_nil))))
      (pss_cons (ps_set (i := 4) nd rfl (Or.inl rfl) (pe_op op_cat (pe_lc (own := [("_law_pair", 8)]) (by rfl) nd (pi_seqK K (pe_slice (slK K) (pv 3) po_none (po_some pe_int))) (blkOk_by (N := N__law_sparing_right) (own := [("_law_pair", 8)]) (sc := defScope s__law_sparing_right) (by decide +kernel)) (fun _ _ _ _ _ => pg_name (i := 8) nd rfl (Or.inl rfl)) (fun _ _ _ _ _ => pts_nil) (fun _ _ _ _ _ => (pe_ix (ixK K) (pv 8) pe_int (fun _ _ => rfl)))) (pe_lc (own := [("_law_pair", 8)]) (by rfl) nd (pi_seqK K (pe_slice (slK K) (pv 3) (po_some (pe_un un_neg pe_int)) po_none)) (blkOk_by (N := N__law_sparing_right) (own := [("_law_pair", 8)]) (sc := defScope s__law_sparing_right) (by decide +kernel)) (fun _ _ _ _ _ => pg_name (i := 8) nd rfl (Or.inl rfl)) (fun _ _ _ _ _ => pts_nil) (fun _ _ _ _ _ => (pe_ix (ixK K) (pv 8) pe_int (fun _ _ => rfl))))))
      (pss_cons (ps_for PassesOwn.never rfl (pi_listK K (pe_op op_cat (pe_op op_cat (pv 4) (pe_lc (own := [("_law_end", 9)]) (by rfl) nd (pi_listK K (pv 4)) (blkOk_by (N := N__law_sparing_right) (own := [("_law_end", 9)]) (sc := defScope s__law_sparing_right) (by decide +kernel)) (fun _ _ _ _ _ => pg_name (i := 9) nd rfl (Or.inl rfl)) (fun _ _ _ _ _ => pts_nil) (fun _ _ _ _ _ => (pe_op op_add (pv 9) pe_int)))) (pe_lc (own := [("_law_end", 9)]) (by rfl) nd (pi_listK K (pv 4)) (blkOk_by (N := N__law_sparing_right) (own := [("_law_end", 9)]) (sc := defScope s__law_sparing_right) (by decide +kernel)) (fun _ _ _ _ _ => pg_name (i := 9) nd rfl (Or.inl rfl)) (fun _ _ _ _ _ => pts_nil) (fun _ _ _ _ _ => (pe_op op_sub (pv 9) pe_int))))) (pg_name (i := 5) nd rfl (Or.inr rfl)) (pss_cons (ps_set (i := 6) nd rfl (Or.inl rfl) (pe_call G__law_of_class hr__law_of_class (by rfl) T.m__law_of_class T.k__law_of_class T.b__law_of_class .nil pass0 (pa_cons (pv 0) (pa_cons (pv 1) (pa_cons (pv 5) pa_nil)))))
      (pss_one (ps_if (pt_cmpR op_notN (pv 6) pe_non (nomark _)) (pss_cons (ps_set (i := 7) nd rfl (Or.inl rfl) (pe_callB (anyK K) (by rfl) T.z_any (by decide +kernel) (pa_cons (pe_lc (own := [("_law_least", 10), ("_law_greatest", 11)]) (by rfl) nd (pi_seqK K (pv 3)) (blkOk_by (N := N__law_sparing_right) (own := [("_law_least", 10), ("_law_greatest", 11)]) (sc := defScope s__law_sparing_right) (by decide +kernel)) (fun _ _ _ _ _ => (pg_tupK K 2 (by rfl) (pgs_cons (pg_name (i := 10) nd rfl (Or.inl rfl)) (pgs_cons (pg_name (i := 11) nd rfl (Or.inl rfl)) pgs_nil)))) (fun _ _ _ _ _ => pts_nil) (fun _ _ _ _ _ => (pe_chain op_le op_le (pv 10) (pe_op op_mod (pv 5) (pv 2)) (pv 11)))) pa_nil)))
      (pss_one (ps_if (PW.pt (pw_or (pt_cmpR op_ne (pe_cmpR op_isN (pe_call G_next_loss hr_next_loss (by rfl) T.m_next_loss T.k_next_loss T.b_next_loss .nil pass0 (pa_cons (pv 0) (pa_cons (pv 6) pa_nil))) pe_non (nomark _)) (pv 7) (nomark _)) (pw_or1 (pt_cmpR op_ne (pe_cmpR op_eq (pe_call G_lost_in_all hr_lost_in_all (by rfl) T.m_lost_in_all T.k_lost_in_all T.b_lost_in_all .nil pass0 (pa_cons (pv 0) (pa_cons (pv 6) pa_nil))) pe_int (nomark _)) (pv 7) (nomark _))))) (pss_one (ps_ret pe_bl)) pss_nil))) pss_nil))))
      (pss_one (ps_ret pe_bl))))), ?_⟩
    have est : L2.start N__law_sparing_right [v, .int a] = [some v, some (.int a), none, none, none, none, none, none, none, none, none, none] := rfl
    rw [est]
    clear est
    walk_at "un"
    refine ⟨_, rfl, true, h, v, rfl, hD, hk, fun H1 x1 => ?_⟩
    walk_at "ut"
    refine ⟨_, rfl, _, rfl, true, h, v, a, rfl, dp_le x1.le0 _ _ hD, hk, fun l S ws H2 hG ll S0 hS hA x2 => ⟨show 2 ≤ sizeLine by decide, fun p hp => ?_⟩⟩
    have y3 := Ex.new (B := []) (o := .tup [.int (gcdI h), .ref S]) hp
    have hS3 := y3.1 _ _ (by simp) hS
    have hA3 : DpAll K (upd H2 p (.tup [.int (gcdI h), .ref S])) ws (l.map pairD) := dpa_le y3.le0 _ _ (dpa_le (wo_le _ _) _ _ (hA [] (by simp)))
    refine ⟨p, _, rfl, SqT.of upd_same, rfl, _, _, rfl, _, _, rfl, rfl, ?_⟩
    have x3 := (x1.trans x2).trans y3
    clear hA y3
    revert x3 hS3 hA3
    generalize upd H2 p (.tup [.int (gcdI h), .ref S]) = H3
    intro hS3 hA3 x3
    try dsimp only [List.set_cons_zero, List.set_cons_succ]
    have lw : ws.length = l.length := by have := dpa_len hA3; rw [List.length_map] at this; exact this
    have hv3 := dp_le x3.le0 _ _ hD
    refine asg_join (P := fun x G => ∃ (I : Addr) (ns : List Int), x = .ref I ∧ G I = some (.lst (ns.map V.int)) ∧ ns.length ≤ 1800 ∧ Ex [] H3 G) (fun Q' hq => ?_) (fun x G hP => ?_)
    · walk_at "un"
      have cutl : ∀ lo hi, ∃ l' : List (Int × Int), DpAll K H3 (cutV ws lo hi) (l'.map pairD) ∧ l'.length ≤ 900 := fun lo hi => by
        refine ⟨(l.drop (HT.sIx ws.length 0 lo)).take (HT.sIx ws.length ws.length hi - HT.sIx ws.length 0 lo), ?_, ?_⟩
        · have := dpa_sub (HT.sIx ws.length 0 lo) (HT.sIx ws.length ws.length hi - HT.sIx ws.length 0 lo) hA3
          rw [← List.map_drop, ← List.map_take] at this
          exact this
        · rw [List.length_take, List.length_drop]
          omega
      obtain ⟨l1, hA1, n1⟩ := cutl none (some 5)
      obtain ⟨l2, hA2, n2⟩ := cutl (some (-5)) none
      have e1 : (cutV ws none (some 5)).length = l1.length := by have := dpa_len hA1; rw [List.length_map] at this; exact this
      have e2 : (cutV ws (some (-5)) none).length = l2.length := by have := dpa_len hA2; rw [List.length_map] at this; exact this
      refine z_lcP1 (t := false) (xs := cutV ws none (some 5)) (fun R r => ⟨_, rfl, _, rfl, z_sl (t := false) (show SqX false K H3 S ws from SqL.of hS3) fun p H' e s => r p H' e s⟩) (by omega) (fun i => ((l1[i]?).map fun r => V.int r.1).getD .non) (fun i x H' hx e N hN => ?_) (fun D1 H4 hD1 hz1 y4 => ?_)
      · obtain ⟨d, hd1, hDx⟩ := dpa_get' hA1 hx
        rw [List.getElem?_map] at hd1
        obtain ⟨r, hr1, rfl⟩ := Option.map_eq_some_iff.mp hd1
        refine ⟨rfl, _, rfl, z_ixD (dp_le e.le0 _ _ hDx) (Le.refl _) (j := 0) rfl rfl fun z hz => ?_⟩
        obtain rfl := dp_int hz
        have := hN H' (Ex.refl _ _)
        rw [hr1] at this
        exact this
      refine z_lcP1 (t := false) (xs := cutV ws (some (-5)) none) (fun R r => ⟨_, rfl, _, rfl, _, rfl, z_sl (t := false) (show SqX false K H4 S ws from SqL.of (y4.1 _ _ (by simp) hS3)) fun p H' e s => r p H' e s⟩) (by omega) (fun i => ((l2[i]?).map fun r => V.int r.2).getD .non) (fun i x H' hx e N hN => ?_) (fun D2 H5 hD2 hz2 y5 => ?_)
      · obtain ⟨d, hd1, hDx⟩ := dpa_get' hA2 hx
        rw [List.getElem?_map] at hd1
        obtain ⟨r, hr1, rfl⟩ := Option.map_eq_some_iff.mp hd1
        refine ⟨rfl, _, rfl, z_ixD (dp_le (y4.trans e).le0 _ _ hDx) (Le.refl _) (j := 1) rfl rfl fun z hz => ?_⟩
        obtain rfl := dp_int hz
        have := hN H' (Ex.refl _ _)
        rw [hr1] at this
        exact this
      rw [e1, map_at] at hz1
      rw [e2, map_at] at hz2
      refine ⟨D1, D2, _, _, rfl, rfl, y5.1 _ _ (by simp) hz1, hz2, ?_, fun p6 hp6 => ?_⟩
      · rw [List.length_map, List.length_map]
        exact Nat.le_trans (show l1.length + l2.length ≤ 1800 by omega) (by decide)
      · refine hq _ _ ⟨p6, l1.map (·.1) ++ l2.map (·.2), rfl, ?_, ?_, (y4.trans y5).trans (Ex.new hp6)⟩
        · rw [upd_same, List.map_append, List.map_map, List.map_map]
          rfl
        · rw [List.length_append, List.length_map, List.length_map]
          omega
    · obtain ⟨I, ns, rfl, hI, nl, x4⟩ := hP
      dsimp only [gName, List.set_cons_zero, List.set_cons_succ]
      have hv := dp_le x4.le0 _ _ hv3
      have hS4 := x4.1 _ _ (by simp) hS3
      have hA4 := dpa_le x4.le0 _ _ hA3
      walk_at "un"
      refine for_D fun D' eD' => ?_
      refine z_forL fun R r => ?_
      walk_at "un"
      refine ⟨_, rfl, z_lcL1 (xs := ns.map V.int) (fun R r => ⟨_, rfl, r I _ (Ex.refl _ _) (SqL.of hI)⟩) (by rw [List.length_map]; omega) (fun i => ((ns[i]?).map fun m => V.int (m + 1)).getD .non) (fun i x H' hx e N hN => ?_) (fun D1 H5 hD1 hz1 y5 => ?_)⟩
      · rw [List.getElem?_map] at hx
        obtain ⟨m, hm, rfl⟩ := Option.map_eq_some_iff.mp hx
        refine ⟨rfl, _, rfl, _, _, rfl, rfl, ?_⟩
        have := hN H' (Ex.refl _ _)
        rw [hm] at this
        exact this
      rw [List.length_map, map_at] at hz1
      refine ⟨I, D1, _, _, rfl, rfl, y5.1 _ _ (by simp) hI, hz1, by rw [List.length_map, List.length_map]; exact Nat.le_trans (show ns.length + ns.length ≤ 3600 by omega) (by decide), fun p6 hp6 => ?_⟩
      have y6 := y5.trans (Ex.new (B := []) (o := .lst (ns.map V.int ++ ns.map fun m => V.int (m + 1))) hp6)
      refine z_lcL1 (xs := ns.map V.int) (fun R r => ⟨_, rfl, r I _ (Ex.refl _ _) (SqL.of (y6.1 _ _ (by simp) hI))⟩) (by rw [List.length_map]; omega) (fun i => ((ns[i]?).map fun m => V.int (m - 1)).getD .non) (fun i x H' hx e N hN => ?_) (fun D2 H7 hD2 hz2 y7 => ?_)
      · rw [List.getElem?_map] at hx
        obtain ⟨m, hm, rfl⟩ := Option.map_eq_some_iff.mp hx
        refine ⟨rfl, _, rfl, _, _, rfl, rfl, ?_⟩
        have := hN H' (Ex.refl _ _)
        rw [hm] at this
        exact this
      rw [List.length_map, map_at] at hz2
      refine ⟨p6, D2, _, _, rfl, rfl, y7.1 _ _ (by simp) upd_same, hz2, by rw [List.length_append, List.length_map, List.length_map, List.length_map]; exact Nat.le_trans (show ns.length + ns.length + ns.length ≤ 5400 by omega) (by decide), fun p8 hp8 => ?_⟩
      have y8 := (y6.trans y7).trans (Ex.new (B := []) (o := .lst ((ns.map V.int ++ ns.map fun m => V.int (m + 1)) ++ ns.map fun m => V.int (m - 1))) hp8)
      obtain ⟨ks, eks⟩ : ∃ ks : List Int, ((ns.map V.int ++ ns.map fun m => V.int (m + 1)) ++ ns.map fun m => V.int (m - 1)) = ks.map V.int := ⟨(ns ++ ns.map (· + 1)) ++ ns.map (· - 1), by rw [List.map_append, List.map_append, List.map_map, List.map_map]; rfl⟩
      rw [eks] at y8 ⊢
      have hks : upd H7 p8 (.lst (ks.map V.int)) p8 = some (.lst (ks.map V.int)) := upd_same
      clear y5 y6 y7 hz1 hz2 hp6 hp8 hD1 hD2 eks
      revert y8 hks
      generalize upd H7 p8 (.lst (ks.map V.int)) = H8
      intro y8 hks
      refine r _ _ ⟨p8, ks.map V.int, fun i σ H' => ∃ u5 u6 u7 : Option V, σ = [some v, some (.int a), some (.int (gcdI h)), some (.ref S), some (.ref I), u5, u6, u7, none, none, none, none] ∧ Ex [] H8 H', rfl, ⟨_, _, _, rfl, Ex.refl _ _⟩, fun i σ' H' _ J => ?_, fun i x σ' H' hx J => ?_, fun σ' H' J => ?_⟩
      · obtain ⟨_, _, _, _, xJ⟩ := J
        exact SqL.of (xJ.1 _ _ (by simp) hks)
      · obtain ⟨u5, u6, u7, rfl, xJ⟩ := J
        rw [List.getElem?_map] at hx
        obtain ⟨kd, _, rfl⟩ := Option.map_eq_some_iff.mp hx
        dsimp only [gName, List.set_cons_zero, List.set_cons_succ]
        have z8 := y8.trans xJ
        have hvJ := dp_le z8.le0 _ _ hv
        refine asg_join (P := fun x G => (x = .non ∨ ∃ (s : Now) (p : Addr), x = .ref p ∧ s.ant = a ∧ lineAt h s % gcdI h = kd % gcdI h ∧ Dp K G (.ref p) (s.dat true)) ∧ Ex [] H' G) (fun Q' hq => ?_) (fun x G9 hP => ?_)
        · walk_at "ut"
          exact ⟨_, rfl, _, rfl, _, rfl, h, v, a, kd, rfl, hvJ, hk, fun G e => hq _ _ ⟨.inl rfl, e⟩, fun s p G e1 e2 d _ e => hq _ _ ⟨.inr ⟨s, p, rfl, e1, e2, d⟩, e⟩⟩
        obtain ⟨cx, x9⟩ := hP
        dsimp only [gName, List.set_cons_zero, List.set_cons_succ]
        have z89 := xJ.trans x9
        rcases cx with rfl | ⟨s, p, rfl, sa, sl, dS⟩
        · walk_at "un"
          refine ⟨_, rfl, rfl, _, rfl, ?_⟩
          refine iteF ⟨_, _, _, rfl, z89⟩
        · walk_at "un"
          refine ⟨_, rfl, rfl, _, rfl, ?_⟩
          refine iteT ?_
          have hS9 := z89.1 _ _ (by simp) (y8.1 _ _ (by simp) hS4)
          have hA9 := dpa_le (y8.trans z89).le0 _ _ hA4
          have hv9 := dp_le (y8.trans z89).le0 _ _ hv
          have due := due_iff hk hG sl
          refine z_lcP1 (t := false) (xs := ws) (fun R r => ⟨_, rfl, r S _ (Ex.refl _ _) (show SqX false K G9 S ws from SqL.of hS9)⟩) (by omega) (fun i => ((l[i]?).map fun r => V.bl (decide (r.1 ≤ kd % gcdI h) && decide (kd % gcdI h ≤ r.2))).getD .non) (fun i x G10 hx e10 N hN => ?_) (fun D3 G10 hD3 hz3 x10 => ?_)
          · obtain ⟨d, hd1, hDx⟩ := dpa_get' hA9 hx
            rw [List.getElem?_map] at hd1
            obtain ⟨r, hr1, rfl⟩ := Option.map_eq_some_iff.mp hd1
            obtain ⟨xa, xs, rfl, hXS, hXA⟩ := dp_tup (show Dp K G10 x (.tuple [.int r.1, .int r.2]) from dp_le e10.le0 _ _ hDx)
            cases hXA with | cons g1 hXA => cases hXA with | cons g2 hXA =>
            cases hXA
            obtain rfl := dp_int g1
            obtain rfl := dp_int g2
            refine ⟨xa, _, rfl, hXS, rfl, _, _, rfl, _, _, rfl, rfl, ?_⟩
            refine ⟨rfl, ?_⟩
            dsimp only [wipe, List.map, List.foldl, List.set_cons_zero, List.set_cons_succ]
            refine ⟨_, rfl, _, rfl, _, rfl, _, _, rfl, rfl, g0, _, _, rfl, rfl, _, rfl, ?_⟩
            have q1 := hN G10 (Ex.refl _ _)
            rw [hr1] at q1
            have q1 : N (.bl (decide (r.1 ≤ kd % gcdI h) && decide (kd % gcdI h ≤ r.2))) G10 := q1
            by_cases c : r.1 ≤ kd % gcdI h
            · rw [if_pos (decide_eq_true c)]
              rw [decide_eq_true c, Bool.true_and] at q1
              exact ⟨_, rfl, _, _, rfl, rfl, q1⟩
            · rw [if_neg (by rw [decide_eq_false c]; exact Bool.false_ne_true)]
              rw [decide_eq_false c, Bool.false_and] at q1
              exact q1
          rw [lw, map_at] at hz3
          refine ⟨D3, inB l (kd % gcdI h), rfl, SqL.of (by rw [hz3]; unfold inB; rw [List.map_map]; rfl), ?_⟩
          obtain ⟨bb, ebb⟩ : ∃ bb, bb = (inB l (kd % gcdI h)).any id := ⟨_, rfl⟩
          rw [← ebb] at due ⊢
          try dsimp only [List.set_cons_zero, List.set_cons_succ]
          have z8a := z89.trans x10
          have hva := dp_le x10.le0 _ _ hv9
          have dSa := dp_le x10.le0 _ _ dS
          have sal : s.ant < h.needs.length := by rw [sa]; exact al
          have last : ∀ G, Ex [] G10 G → tCall (spLia K) [] E0 (tCons (tVar 0) (tCons (tVar 6) tNil)) [some v, some (.int a), some (.int (gcdI h)), some (.ref S), some (.ref I), some (.int kd), some (.ref p), some (.bl bb), none, none, none, none] G (fun x3 H1 => rEq x3 (.int 0) H1 fun x4 H1 => tVar 7 [some v, some (.int a), some (.int (gcdI h)), some (.ref S), some (.ref I), some (.int kd), some (.ref p), some (.bl bb), none, none, none, none] H1 fun y H2 => rNe x4 y H2 fun x5 H' => ∃ k, x5 = V.bl k ∧ if k = true then D'.rt (V.bl false) H' else ∃ u5 u6 u7 : Option V, [some v, some (.int a), some (.int (gcdI h)), some (.ref S), some (.ref I), some (.int kd), some (.ref p), some (.bl bb), none, none, none, none] = [some v, some (.int a), some (.int (gcdI h)), some (.ref S), some (.ref I), u5, u6, u7, none, none, none, none] ∧ Ex [] H8 H') := fun G eG => by
            refine ⟨_, rfl, _, rfl, true, true, h, s, v, .ref p, rfl, dp_le eG.le0 _ _ hva, hk, dp_le eG.le0 _ _ dSa, sal, fun G' al' e' => ?_, fun d G' D e' => ?_⟩
            · have eb : bb = false := Bool.eq_false_iff.mpr fun z => due.mp z (by rw [← sa]; exact al' _)
              refine ⟨rfl, _, rfl, ?_⟩
              rw [eb]
              exact z_neS rfl ⟨_, rfl, iteF ⟨_, _, _, rfl, z8a.trans (eG.trans e')⟩⟩
            · refine ⟨rfl, _, rfl, ?_⟩
              have eb : decide (V.int d = V.int 0) = bb := by
                rw [Bool.eq_iff_iff, decide_eq_true_iff, due]
                constructor
                · intro z
                  have z : d = 0 := V.int.inj z
                  have := D.sp
                  rw [z, Int.add_zero, sa] at this
                  exact this
                · intro z
                  have : d = 0 := by
                    refine D.uniq ⟨Int.le_refl _, by rw [Int.add_zero, sa]; exact z, fun e a b => by omega⟩
                  rw [this]
              rw [eb]
              exact z_neS rfl ⟨_, rfl, iteF ⟨_, _, _, rfl, z8a.trans (eG.trans e')⟩⟩
          refine ⟨_, rfl, _, rfl, true, true, h, s, v, .ref p, rfl, hva, hk, dSa, sal, fun G' qu e' => ?_, fun n ev pp rr G' lt _ _ _ _ e' => ?_⟩
          · have eb : bb = true := due.mpr (by rw [← sa]; exact (quiet_iff hk).mp qu)
            refine ⟨rfl, _, rfl, ?_⟩
            rw [decide_eq_true (rfl : V.non = V.non)]
            have l' := last G' e'
            rw [eb] at l' ⊢
            exact z_neS rfl ⟨_, rfl, iteF l'⟩
          · have eb : bb = false := Bool.eq_false_iff.mpr fun z => by
              have nl := due.mp z
              rw [← sa] at nl
              have := (quiet_iff hk).mpr nl n n lt.n1 (Nat.le_refl _)
              have := lt.lost
              omega
            refine ⟨rfl, _, rfl, ?_⟩
            rw [decide_eq_false (fun z => by cases z)]
            have l' := last G' e'
            rw [eb] at l' ⊢
            exact z_neS rfl ⟨_, rfl, iteF l'⟩
      · obtain ⟨_, _, _, rfl, xJ⟩ := J
        rw [eD']
        walk_at "un"
        exact q _ ((x3.trans x4).trans (y8.trans xJ))
end
end Z64
set_option Elab.async false
set_option linter.all false
set_option maxRecDepth 100000
set_option maxHeartbeats 8000000
namespace Z64
open PySem PySem.Spec PyProof.Rows L2 Hz LamX NdefX
section
variable {P : Program} {w : World} {K : PySem.W.Frag} {mg : Str → Option Value} {base : Heap}
local macro_rules | `(tactic| walk_at "un") => `(tactic| try dsimp only [tSeq, tIfS, tRet, tAsg, tDrop, tOr, tAnd, tNot, tAndV, tOrV, tNotV, tTest, tB, tOp, tUn, tCB, tCons, tNil, tC, tNext, tIf, tChain, gName, tPar, tPar3, tTup, tLst])
local macro_rules | `(tactic| walk_at "ut") => `(tactic| try dsimp only [tNil, tCons, tC, List.append_nil, List.cons_append, List.nil_append])
theorem gaps_spare {h : Hill} (hk : HillOk h) {l : List (Int × Int)} (G : Gaps (gcdI h) (Lossy h 0) l) : 0 < l.length ↔ Spare h := by
  constructor
  · intro z
    cases l with
    | nil => exact absurd z (Nat.lt_irrefl 0)
    | cons p l =>
      obtain ⟨p0, p1, p2⟩ := G.in_ p (by simp)
      exact ⟨p.1, (G.eq p.1 p0 (by omega)).mp ⟨p, by simp, Int.le_refl _, p1⟩⟩
  · intro ⟨y, hy⟩
    have g0 := gcd_pos hk
    have := (G.eq (y % gcdI h) (Int.emod_nonneg _ (by omega)) (Int.emod_lt_of_pos _ g0)).mpr (fun z => hy ((lossy_mod hk y).mp z))
    obtain ⟨p, hp, _⟩ := this
    exact List.length_pos_of_mem hp
theorem gaps_nil {h : Hill} (hk : HillOk h) {a : Nat} (z : ∀ y, Lossy h a y) {l : List (Int × Int)} (G : Gaps (gcdI h) (Lossy h a) l) : l = [] := by
  cases l with
  | nil => rfl
  | cons p l =>
    obtain ⟨p0, p1, p2⟩ := G.in_ p (by simp)
    exact ((G.eq p.1 p0 (by omega)).mp ⟨p, by simp, Int.le_refl _, p1⟩ (z _)).elim
theorem no_spare {h : Hill} (ns : ¬ Spare h) (y : Int) : Lossy h 0 y := Classical.byContradiction fun z => ns ⟨y, z⟩
theorem gaps0 {h : Hill} (hk : HillOk h) (ns : ¬ Spare h) : Gaps (gcdI h) (Lossy h 0) [] :=
  ⟨List.Pairwise.nil, fun p hp => (by cases hp), fun x _ _ => ⟨fun ⟨p, hp, _⟩ => (by cases hp), fun z => (z (no_spare ns x)).elim⟩⟩
/-- of all pairs: they show that it spills where it does -/
theorem rows_all {h : Hill} (hk : HillOk h) {l : List Int} (lo : h.Lows l) {l' : List (Int × Int)} (G : Gaps (gcdI h) (OnArc (gcdI h) ((pairsN h.needs.length l.length).map (arcR h l))) l') : l'.length = 0 ↔ ¬ Spare h := by
  constructor
  · rintro z ⟨y, hy⟩
    have e : l' = [] := List.length_eq_zero_iff.mp z
    subst e
    have g0 := gcd_pos hk
    refine hy ((lossy_mod hk y).mp ((onarc_iff hk lo _).mp ?_))
    refine Classical.byContradiction fun c => ?_
    have := (G.eq (y % gcdI h) (Int.emod_nonneg _ (by omega)) (Int.emod_lt_of_pos _ g0)).mpr fun d => c ?_
    · obtain ⟨p, hp, _⟩ := this
      cases hp
    · obtain ⟨ar, har, k, k1, k2⟩ := d
      obtain ⟨⟨j, b⟩, hr, rfl⟩ := List.mem_map.mp har
      obtain ⟨jn, bn⟩ := pairs_mem.mp hr
      refine ⟨_, arcs_mem.mpr ⟨l[b], List.getElem_mem bn, j, jn, rfl⟩, k, ?_⟩
      have eD : arcR h l (j, b) = (l[b] - h.needN 0 (j + 1), l[b] + h.lostZ l[b] - 1 - h.needN 0 (j + 1)) := by
        unfold arcR
        rw [List.getD_eq_getElem?_getD, List.getElem?_eq_getElem bn]
        rfl
      rw [eD] at k1 k2
      exact ⟨k1, k2⟩
  · intro ns
    rw [all_rows hk lo (gaps0 hk ns) (fun a b ha hb => pairs_mem.mpr ⟨ha, hb⟩) G]
    rfl
def spShowG (K : PySem.W.Frag) : Sp := fun vs H Q _ => ∃ (t : Bool) (h : Hill) (v w : V), vs = [v, w] ∧ Dp K H v (h.dat t) ∧ HillOk h ∧
  ((∃ n : Int, Dp K H w (.tuple [.str "spares", .int n]) ∧ 0 ≤ n ∧ ∀ l H', Gaps (gcdI h) (Lossy h 0) l → Ex [] H H' → Q (.bl ((inB l n).any id)) H') ∨
  (∃ lows : List Int, h.Lows lows ∧ Dp K H w (.tuple [.str "spills", .list ((pairsN h.needs.length lows.length).map duD)]) ∧ ∀ b H', (b = true ↔ ¬ Spare h) → Ex [] H H' → Q (.bl b) H'))
theorem ok_shows_paperG (T : Txt K mg) : FnOk P w K mg base CX0 7 T.a_shows_paper T.d_shows_paper P_shows_paper (spShowG K) := by
  have nd := sc_shows_paper.nd
  have G_is_tuple_of := ok_is_tuple_of (P := P) (w := w) (base := base) T
  have G_shows_spilling := ok_shows_spilling (P := P) (w := w) (base := base) T
  have G_shows_sparing := ok_shows_sparing (P := P) (w := w) (base := base) T
  refine T.F_shows_paper.ok sc_shows_paper (fun vs H Q E h => ?_) (fun cdv A outer s H vs Q E hr h => ?_)
  · obtain ⟨t, h, v, w, rfl, _⟩ := h
    rfl
  · obtain ⟨t, h, v, w, rfl, hD, hk, pd⟩ := h
    have hr_is_tuple_of := hr.mono (show 1 ≤ 6 by decide)
    have hr_shows_spilling := hr.mono (show 5 ≤ 6 by decide)
    have hr_shows_sparing := hr
    refine ⟨_, (pss_cons (ps_if (pt_not (pt_val (pe_call G_is_tuple_of hr_is_tuple_of (by rfl) T.m_is_tuple_of T.k_is_tuple_of T.b_is_tuple_of .nil pass0 (pa_cons (pv 1) (pa_cons pe_int pa_nil))))) (pss_one (ps_ret pe_bl)) pss_nil)
      (pss_cons (ps_if (pt_cmpR op_eq (pe_ix (ixK K) (pv 1) pe_int (fun _ _ => rfl)) pe_str (nomark _)) (pss_one (ps_ret (pe_call G_shows_sparing hr_shows_sparing (by rfl) T.m_shows_sparing T.k_shows_sparing T.b_shows_sparing .nil pass0 (pa_cons (pv 0) (pa_cons (pe_ix (ixK K) (pv 1) pe_int (fun _ _ => rfl)) pa_nil))))) pss_nil)
      (pss_one (ps_ret (pe_and (pe_cmpR op_eq (pe_ix (ixK K) (pv 1) pe_int (fun _ _ => rfl)) pe_str (nomark _)) (pe_one (pe_call G_shows_spilling hr_shows_spilling (by rfl) T.m_shows_spilling T.k_shows_spilling T.b_shows_spilling .nil pass0 (pa_cons (pv 0) (pa_cons (pe_ix (ixK K) (pv 1) pe_int (fun _ _ => rfl)) pa_nil))))))))), ?_⟩
    have est : L2.start N_shows_paper [v, w] = [some v, some w] := rfl
    rw [est]
    clear est
    rcases pd with ⟨y0, hW, p0, q⟩ | ⟨lows, lo, hW, q⟩
    · obtain ⟨a, xs, rfl, hS, hA⟩ := dp_sq (t := true) (ds := [.str "spares", .int y0]) hW
      cases hA with | @cons v0 _ _ _ k0 hA => cases hA with | @cons v1 _ _ _ k1 hA =>
      cases hA
      cases k0
      obtain rfl := dp_int k1
      walk_at "un"
      refine ⟨_, rfl, .ref a, _, 2, rfl, hW, ⟨_, rfl, iteF ?_⟩⟩
      refine ⟨_, rfl, z_ix (.inr hS) (i := 0) (v := .str (Str.ofString "spares")) rfl ⟨rfl, _, rfl, ?_⟩⟩
      rw [decide_eq_true rfl]
      refine iteT ⟨_, rfl, _, rfl, z_ix (.inr hS) (i := 1) (v := .int y0) rfl ?_⟩
      exact ⟨t, h, v, y0, rfl, hD, hk, p0, fun l2 G Gl2 x => q l2 G Gl2 x⟩
    · obtain ⟨a, xs, rfl, hS, hA⟩ := dp_sq (t := true) (ds := [.str "spills", .list ((pairsN h.needs.length lows.length).map duD)]) hW
      cases hA with | @cons v0 _ _ _ k0 hA => cases hA with | @cons v1 _ _ _ k1 hA =>
      cases hA
      cases k0
      walk_at "un"
      refine ⟨_, rfl, .ref a, _, 2, rfl, hW, ⟨_, rfl, iteF ?_⟩⟩
      refine ⟨_, rfl, z_ix (.inr hS) (i := 0) (v := .str (Str.ofString "spills")) rfl ⟨rfl, _, rfl, ?_⟩⟩
      rw [decide_eq_false (show ¬ V.str (Str.ofString "spills") = V.str (Str.ofString "spares") from fun z => by injection z with z; exact absurd z (by decide))]
      refine iteF ⟨_, rfl, z_ix (.inr hS) (i := 0) (v := .str (Str.ofString "spills")) rfl ⟨rfl, _, rfl, ?_⟩⟩
      rw [decide_eq_true rfl]
      refine iteT ⟨_, rfl, _, rfl, z_ix (.inr hS) (i := 1) (v := v1) rfl ?_⟩
      have ll := Hill.lows_len hk.L0 hk.nn hk.op hk.dr hk.m0 lo
      have hL2 := hk.y2
      have hN2 := hk.n2
      refine ⟨t, h, v, v1, pairsN h.needs.length lows.length, lows, rfl, hD, hk, lo, k1, fun r hr' => pairs_mem.mp hr', ?_, fun l' G Gl x => ?_⟩
      · rw [pairs_len]
        have hL3 : h.L ≤ 20 := hL2
        have := Nat.mul_le_mul hN2 (show lows.length ≤ 20 by omega)
        omega
      · refine q _ G ?_ x
        rw [decide_eq_true_iff]
        exact rows_all hk lo Gl
end
end Z64
set_option Elab.async false
set_option linter.all false
set_option maxRecDepth 100000
set_option maxHeartbeats 4000000
namespace Hz
namespace Hill
/-- a turn that loses is a mark -/
theorem lost_mark {h : Hill} {m m' : Mk} (x : h.Nx m m') {e : Nat} (e1 : 1 ≤ e) (e2 : m.t + e ≤ m'.t) (l : 0 < h.lostZ (h.ledN m.a m.y (e - 1) + h.need ((m.a + (e - 1)) % h.needs.length))) : m.t + e = m'.t := by
  obtain ⟨n, L, rfl⟩ := x
  have e3 : m.t + e ≤ m.t + n := e2
  refine Classical.byContradiction fun c => ?_
  have c' : ¬ m.t + e = m.t + n := c
  have q := L.quiet e e1 (by omega)
  have lq := ledN_quiet (h := h) (a := m.a) (x := m.y) (k := e - 1) (fun i a b => L.quiet i a (by omega))
  obtain ⟨k, rfl⟩ : ∃ k, e = k + 1 := ⟨e - 1, by omega⟩
  rw [Nat.add_sub_cancel] at l lq
  have en : h.needN m.a (k + 1) = h.needN m.a k + h.need ((m.a + k) % h.needs.length) := rfl
  rw [en, ← Int.add_assoc, ← lq] at q
  omega
/-- a losing turn from a mark on is one of the marks behind it -/
theorem mark_of {h : Hill} {ms : List Mk} (nx : ∀ {i m m'}, ms[i]? = some m → ms[i + 1]? = some m' → h.Nx m m') : ∀ (d j : Nat) (mj ml : Mk), ms[j]? = some mj → ms[j + d]? = some ml → ∀ e : Nat, 1 ≤ e → mj.t + e ≤ ml.t → 0 < h.lostZ (h.ledN mj.a mj.y (e - 1) + h.need ((mj.a + (e - 1)) % h.needs.length)) →
    ∃ i m, j < i ∧ i ≤ j + d ∧ ms[i]? = some m ∧ m.t = mj.t + e ∧ m.a = (mj.a + e) % h.needs.length ∧ m.y = h.ledN mj.a mj.y e
  | 0, j, mj, ml, ej, ek, e, e1, e2, _ => by
    rw [Nat.add_zero, ej] at ek
    cases ek
    omega
  | d + 1, j, mj, ml, ej, ek, e, e1, e2, l => by
    obtain ⟨m1, em⟩ : ∃ m1, ms[j + 1]? = some m1 := ⟨_, List.getElem?_eq_getElem (by have := (List.getElem?_eq_some_iff.mp ek).1; omega)⟩
    have x := nx ej em
    by_cases c : mj.t + e ≤ m1.t
    · have t := lost_mark x e1 c l
      obtain ⟨n, L, rfl⟩ := x
      obtain rfl : e = n := by
        have : mj.t + e = mj.t + n := t
        omega
      exact ⟨j + 1, _, by omega, by omega, em, rfl, rfl, rfl⟩
    · obtain ⟨n, L, e5⟩ := x
      have et : m1.t = mj.t + n := by rw [e5]
      have ea : m1.a = (mj.a + n) % h.needs.length := by rw [e5]
      have ey : m1.y = h.ledN mj.a mj.y n := by rw [e5]
      have n1 := L.n1
      obtain ⟨f, ef⟩ : ∃ f, e = n + f := ⟨e - n, by omega⟩
      have f1 : 1 ≤ f := by omega
      have l' : 0 < h.lostZ (h.ledN m1.a m1.y (f - 1) + h.need ((m1.a + (f - 1)) % h.needs.length)) := by
        rw [ea, ey, ← ledN_add, Nat.mod_add_mod, Nat.add_assoc, show n + (f - 1) = e - 1 by omega]
        exact l
      obtain ⟨i, m, i1, i2, em', t, a, y⟩ := mark_of nx d (j + 1) m1 ml em (by rw [show j + 1 + d = j + (d + 1) by omega]; exact ek) f f1 (by omega) l'
      refine ⟨i, m, by omega, by omega, em', by omega, ?_, ?_⟩
      · rw [a, ea, Nat.mod_add_mod, Nat.add_assoc, ← ef]
      · rw [y, ea, ey, ← ledN_add, ← ef]
/-- the loss a mark stands for -/
theorem nx_lost {h : Hill} {m m' : Mk} (x : h.Nx m m') : ∃ n, 1 ≤ n ∧ m'.t = m.t + n ∧ m'.a = (m.a + n) % h.needs.length ∧ m'.y = h.ledN m.a m.y n ∧ 0 < h.lostZ (h.ledN m.a m.y (n - 1) + h.need ((m.a + (n - 1)) % h.needs.length)) := by
  obtain ⟨n, L, rfl⟩ := x
  refine ⟨n, L.n1, rfl, rfl, rfl, ?_⟩
  have lq := ledN_quiet (h := h) (a := m.a) (x := m.y) (k := n - 1) (fun i a b => L.quiet i a b)
  have p := L.lost
  obtain ⟨k, rfl⟩ : ∃ k, n = k + 1 := ⟨n - 1, by have := L.n1; omega⟩
  rw [Nat.add_sub_cancel] at lq ⊢
  have en : h.needN m.a (k + 1) = h.needN m.a k + h.need ((m.a + k) % h.needs.length) := rfl
  rw [en, ← Int.add_assoc, ← lq] at p
  exact p
theorem marks_up {h : Hill} {ms : List Mk} (nx : ∀ {i m m'}, ms[i]? = some m → ms[i + 1]? = some m' → h.Nx m m') : ∀ (d j : Nat) (mj ml : Mk), ms[j]? = some mj → ms[j + d]? = some ml → ∃ n, d ≤ n ∧ ml.t = mj.t + n ∧ ml.a % h.needs.length = (mj.a + n) % h.needs.length ∧ ml.y = h.ledN mj.a mj.y n ∧ (1 ≤ d → 0 < h.lostZ (h.ledN mj.a mj.y (n - 1) + h.need ((mj.a + (n - 1)) % h.needs.length)))
  | 0, j, mj, ml, ej, ek => by
    rw [Nat.add_zero, ej] at ek
    cases ek
    exact ⟨0, Nat.le_refl 0, rfl, rfl, rfl, fun z => by omega⟩
  | d + 1, j, mj, ml, ej, ek => by
    obtain ⟨m1, em⟩ : ∃ m1, ms[j + d]? = some m1 := ⟨_, List.getElem?_eq_getElem (by have := (List.getElem?_eq_some_iff.mp ek).1; omega)⟩
    obtain ⟨n, dn, t, a, y, _⟩ := marks_up nx d j mj m1 ej em
    obtain ⟨f, f1, t2, a2, y2, l2⟩ := nx_lost (nx em ek)
    have aq : ∀ g, (m1.a + g) % h.needs.length = (mj.a + (n + g)) % h.needs.length := fun g => by
      rw [← Nat.mod_add_mod, a, Nat.mod_add_mod, Nat.add_assoc]
    have yq : ∀ g, h.ledN m1.a m1.y g = h.ledN mj.a mj.y (n + g) := fun g => by rw [ledN_add, ← a, ledN_mod, y]
    refine ⟨n + f, by omega, by omega, by rw [a2, Nat.mod_mod, aq], by rw [y2, yq], fun _ => ?_⟩
    rw [yq, aq, show n + (f - 1) = n + f - 1 by omega] at l2
    exact l2
section
variable {h : Hill} (hL : 0 < h.L) (hN : h.Nn) (ho : ∃ d, d ∈ h.year ∧ d.2 = true) (hd : 0 < h.drops) (n0 : 0 < h.needs.length)
include hL hN ho hd n0
/-- the first place met again: behind it lies one round in lowest terms -/
theorem first_again {ms : List Mk} (nx : ∀ {i m m'}, ms[i]? = some m → ms[i + 1]? = some m' → h.Nx m m') {j d : Nat} (d1 : 1 ≤ d) {mj ml : Mk} (ej : ms[j]? = some mj) (ek : ms[j + d]? = some ml) (aj : mj.a < h.needs.length) (ak : ml.a < h.needs.length) (key : h.key ml = h.key mj) (no : ∀ i m, j < i → i < j + d → ms[i]? = some m → h.key m ≠ h.key mj)
    {p q a' : Nat} {x' : Int} (p1 : 1 ≤ p) (c : Nat.gcd p q = 1) (al : a' < h.needs.length) (r : h.Rnd a' x' p q) : ml.t - mj.t = p * h.needs.length ∧ ml.y - mj.y = q * h.drops ∧ h.Rnd mj.a mj.y p q := by
  obtain ⟨n, dn, t, a, y, l⟩ := marks_up nx d j mj ml ej ek
  have l := l d1
  obtain ⟨ea, kk, ey⟩ := key_eq key
  have hdvd : h.needs.length ∣ n := by
    have e : (mj.a + n) % h.needs.length = (mj.a + 0) % h.needs.length := by rw [← a, ea, Nat.add_zero]
    have := Nat.sub_mod_eq_zero_of_mod_eq e
    rw [show mj.a + n - (mj.a + 0) = n by omega] at this
    exact Nat.dvd_of_mod_eq_zero this
  obtain ⟨P, eP⟩ := hdvd
  rw [Nat.mul_comm] at eP
  have R : h.Rnd mj.a mj.y P kk := by
    show h.ledN mj.a mj.y (P * h.needs.length) = _
    rw [← eP, ← y, ey]
  have P1 : 1 ≤ P := by
    refine Nat.pos_of_ne_zero fun z => ?_
    rw [z, Nat.zero_mul] at eP
    omega
  have rt := Hill.rate hL hN ho hd n0 al aj r R
  have kk0 : 0 ≤ kk := by
    have : 0 ≤ (p : Int) * kk := by rw [← rt]; exact Int.mul_nonneg (by omega) (by omega)
    exact Int.nonneg_of_mul_nonneg_right this (by omega)
  obtain ⟨Q, rfl⟩ : ∃ Q : Nat, kk = (Q : Int) := ⟨kk.toNat, by omega⟩
  have rn : P * q = p * Q := by
    rw [← Int.natCast_mul, ← Int.natCast_mul] at rt
    exact Int.natCast_inj.mp rt
  obtain ⟨g, eg⟩ : p ∣ P := Nat.Coprime.dvd_of_dvd_mul_right (k := p) (n := q) (m := P) c ⟨Q, rn⟩
  have eQ : Q = g * q := by
    rw [eg, Nat.mul_assoc] at rn
    exact (Nat.eq_of_mul_eq_mul_left p1 rn).symm
  have g1 : 1 ≤ g := by
    refine Nat.pos_of_ne_zero fun z => ?_
    rw [z, Nat.mul_zero] at eg
    omega
  rw [Nat.mul_comm] at eg
  have Rp : h.Rnd mj.a mj.y p q := by
    rw [eg, eQ, Int.natCast_mul] at R
    exact Hill.part hL hN ho hd g1 R
  by_cases c1 : g = 1
  · subst c1
    rw [Nat.one_mul] at eg eQ
    refine ⟨by rw [t, eP, eg]; omega, by rw [ey, eQ]; omega, Rp⟩
  · exfalso
    have pl : 1 ≤ p * h.needs.length := Nat.mul_pos p1 n0
    have es : n = p * h.needs.length + (g - 1) * p * h.needs.length := by
      rw [eP, eg]
      obtain ⟨g', rfl⟩ : ∃ g', g = g' + 1 := ⟨g - 1, by omega⟩
      rw [Nat.add_sub_cancel, Nat.add_mul, Nat.one_mul, Nat.add_mul]
      omega
    have sh := (Rnd.times hL hN ho hd Rp (g - 1)).on hL hN ho hd (p * h.needs.length - 1)
    have l0 : 0 < h.lostZ (h.ledN mj.a mj.y (p * h.needs.length - 1) + h.need ((mj.a + (p * h.needs.length - 1)) % h.needs.length)) := by
      have e1 : n - 1 = (p * h.needs.length - 1) + (g - 1) * p * h.needs.length := by omega
      have e2 : h.ledN mj.a mj.y (n - 1) = h.ledN mj.a mj.y (p * h.needs.length - 1) + ((g - 1 : Nat) * q : Int) * h.drops := by
        rw [e1, ledN_add, ledN_mod]
        exact sh
      have e3 : (mj.a + (n - 1)) % h.needs.length = (mj.a + (p * h.needs.length - 1)) % h.needs.length := by
        rw [e1, ← Nat.add_assoc, Nat.add_mul_mod_self_right]
      rw [e2, e3, Int.add_right_comm, lostZ_year hL hN ho hd] at l
      exact l
    have lt : p * h.needs.length < n := by
      have : 1 ≤ (g - 1) * p * h.needs.length := Nat.mul_pos (Nat.mul_pos (by omega) p1) n0
      omega
    obtain ⟨i, m, i1, i2, em, tm, am, ym⟩ := mark_of nx d j mj ml ej ek _ pl (by omega) l0
    have ik : i < j + d := by
      refine Nat.lt_of_le_of_ne i2 fun z => ?_
      rw [z, ek] at em
      cases em
      omega
    refine no i m i1 ik em ?_
    unfold Hill.key
    have r0 : h.ledN mj.a mj.y (p * h.needs.length) = mj.y + q * h.drops := Rp
    rw [am, ym, r0, Nat.add_mul_mod_self_right, Nat.mod_eq_of_lt aj, Int.add_mul_emod_self_right]
end
end Hill
end Hz
set_option Elab.async false
set_option linter.all false
set_option maxRecDepth 100000
set_option maxHeartbeats 8000000
namespace Z64
open PySem PySem.Spec PyProof.Rows L2 Hz LamX NdefX
section
variable {h : Hill} (hk : HillOk h)
include hk
/-- where a hill spares, no place behind losses comes again -/
theorem spare_no (S : Spare h) {ms : List Hill.Mk} (nx : ∀ {i m m'}, ms[i]? = some m → ms[i + 1]? = some m' → h.Nx m m') {j d : Nat} (d1 : 1 ≤ d) {mj ml : Hill.Mk} (ej : ms[j]? = some mj) (ek : ms[j + d]? = some ml) (aj : mj.a < h.needs.length) : h.key ml ≠ h.key mj := fun key => by
  obtain ⟨n, dn, t, a, y, l⟩ := Hill.marks_up nx d j mj ml ej ek
  have l := l d1
  obtain ⟨ea, kk, ey⟩ := Hill.key_eq key
  have hdvd : h.needs.length ∣ n := by
    have e : (mj.a + n) % h.needs.length = (mj.a + 0) % h.needs.length := by rw [← a, ea, Nat.add_zero]
    have := Nat.sub_mod_eq_zero_of_mod_eq e
    rw [show mj.a + n - (mj.a + 0) = n by omega] at this
    exact Nat.dvd_of_mod_eq_zero this
  obtain ⟨P, eP⟩ := hdvd
  rw [Nat.mul_comm] at eP
  have P1 : 1 ≤ P := by
    refine Nat.pos_of_ne_zero fun z => ?_
    rw [z, Nat.zero_mul] at eP
    omega
  have R : h.Rnd mj.a mj.y P kk := by
    show h.ledN mj.a mj.y (P * h.needs.length) = _
    rw [← eP, ← y, ey]
  have kk0 : 0 ≤ kk := by
    have := (Hill.ledN_bd hk.L0 hk.nn hk.op hk.dr hk.m0 hk.nd mj.a mj.y n).1
    rw [← y, ey] at this
    exact Int.nonneg_of_mul_nonneg_left (show 0 ≤ kk * h.drops by omega) hk.dr
  obtain ⟨Q, rfl⟩ : ∃ Q : Nat, kk = (Q : Int) := ⟨kk.toNat, by omega⟩
  have e := spare_rate hk S aj R
  have q := Hill.Rnd.quiet hk.L0 hk.nn hk.op hk.dr hk.n1 P1 R e (n - 1 + 1) (n - 1 + 1) (by omega) (Nat.le_refl _)
  have q' := Hill.ledN_quiet (Hill.Rnd.quiet hk.L0 hk.nn hk.op hk.dr hk.n1 P1 R e (n - 1))
  have en : h.needN mj.a (n - 1 + 1) = h.needN mj.a (n - 1) + h.need ((mj.a + (n - 1)) % h.needs.length) := rfl
  rw [q', Int.add_assoc, ← en] at l
  omega
/-- where a hill spares: no more losses than ants and stretches together -/
theorem spare_len (S : Spare h) {day : Nat} {m0 : Hill.Mk} (a0 : m0.a < h.needs.length) {L : List (Nat × Now × Int)} {ms : List Hill.Mk} (p : h.LossL day m0 L ms) {lw : List Int} (hlw : h.Lows lw) : L.length ≤ h.needs.length * lw.length := by
  have wa : ∀ {i : Nat} {m : Hill.Mk}, ms[i]? = some m → m.a < h.needs.length := fun {i m} e => by
    cases i with
    | zero =>
      rw [p.fst] at e
      cases e
      exact a0
    | succ i =>
      obtain ⟨m1, em1⟩ : ∃ m1, ms[i]? = some m1 := ⟨_, List.getElem?_eq_getElem (by have := (List.getElem?_eq_some_iff.mp e).1; omega)⟩
      obtain ⟨n, _, e2⟩ := p.nx em1 e
      rw [e2]
      exact Nat.mod_lt _ hk.n1
  have nd : (ms.map h.key).Nodup := by
    refine List.pairwise_iff_getElem.mpr fun i j hi hj ij => ?_
    rw [List.length_map] at hi hj
    rw [List.getElem_map, List.getElem_map]
    have := spare_no hk S p.nx (j := i) (d := j - i) (by omega) (List.getElem?_eq_getElem hi) (by rw [show i + (j - i) = j by omega]; exact List.getElem?_eq_getElem hj) (wa (List.getElem?_eq_getElem hi))
    exact fun z => this z.symm
  have a := Hill.marks_len hk.L0 hk.nn hk.op hk.dr hk.m0 hk.n1 hlw p.nx nd
  have pl := p.len
  omega
end

theorem all_same {h : Hill} (hk : HillOk h) {a b : Nat} (al : a < h.needs.length) (bl : b < h.needs.length) (p : ∀ y, Lossy h a y) : ∀ y, Lossy h b y := by
  have key : ∀ n : Nat, ∀ y, Lossy h ((a + n) % h.needs.length) y := fun n => by
    induction n with
    | zero => rw [Nat.add_zero, Nat.mod_eq_of_lt al]; exact p
    | succ n ih =>
      have := all_next hk (Nat.mod_lt _ hk.n1) ih
      rwa [Nat.mod_add_mod, Nat.add_assoc] at this
  have := key (b + h.needs.length - a)
  rwa [show a + (b + h.needs.length - a) = b + h.needs.length by omega, Nat.add_mod_right, Nat.mod_eq_of_lt bl] at this
section
variable {P : Program} {w : World} {K : PySem.W.Frag} {mg : Str → Option Value} {base : Heap}
def spSpW (K : PySem.W.Frag) : Sp := fun vs H Q _ => ∃ (h : Hill) (v : V), vs = [v] ∧ Dp K H v (h.dat true) ∧ HillOk h ∧ ∀ b H', (b = true ↔ Spare h) → Ex [] H H' → Q (.bl b) H'
theorem ok_spW (T : Txt K mg) : FnOk P w K mg base CX0 6 T.a_spares T.d_spares P_spares (spSpW K) := by
  refine fnOk_weak (ok_spares T) fun vs H Q E h => ?_
  obtain ⟨h, v, rfl, hD, hk, q⟩ := h
  exact ⟨true, h, v, rfl, hD, hk, fun l H' G x => q _ H' (by rw [decide_eq_true_iff]; exact gaps_spare hk G) x⟩
def spLsW (K : PySem.W.Frag) : Sp := fun vs H Q _ => ∃ (h : Hill) (s : Now) (v u : V), vs = [v, u, .int 100] ∧ Dp K H v (h.dat true) ∧ HillOk h ∧ h.year.length ≤ 5 ∧ h.needs.length ≤ 3 ∧ Dp K H u (s.dat true) ∧ s.ant < h.needs.length ∧
  ∀ p us H', H' p = some (.lst us) → us.length ≤ 500 → (∀ lows, h.Lows lows → Spare h → us.length ≤ h.needs.length * lows.length) → (¬ Spare h → us.length = 100) → Ex [] H H' → Q (.ref p) H'
theorem ok_lsW (T : Txt K mg) : FnOk P w K mg base CX0 7 T.a_losses T.d_losses P_losses (spLsW K) := by
  refine fnOk_weak (ok_losses T) fun vs H Q E h => ?_
  obtain ⟨h, s, v, u, rfl, hD, hk, y5, n3, hU, al, q⟩ := h
  refine ⟨true, true, h, s, 100, v, u, rfl, hD, hk, hU, al, by decide, fun L ms p us H' hl he hp hp' hA x => ?_⟩
  have lu : us.length = L.length := by
    have := dpa_len (hA [] (by simp))
    rw [List.length_map] at this
    exact this
  refine q p us H' hp' ?_ (fun lows lo S => ?_) (fun ns => ?_) x
  · rw [lu]
    rcases he with e | ⟨e, _⟩ <;> omega
  · rw [lu]
    exact spare_len hk S al hl lo
  · rw [lu]
    rcases he with e | ⟨_, m, em, qu⟩
    · exact e
    · exfalso
      obtain ⟨a1, a2, _⟩ := Hill.way_at (h := h) al hl.fst hl.nx em
      have ma : m.a < h.needs.length := by rw [a1]; exact Nat.mod_lt _ hk.n1
      exact (quiet_iff hk).mp qu (all_same hk hk.n1 ma (fun y => no_spare ns y) m.y)
end
end Z64
set_option Elab.async false
set_option linter.all false
set_option maxRecDepth 100000
set_option maxHeartbeats 8000000
namespace Z64
open PySem PySem.Spec PyProof.Rows L2 Hz LamX NdefX
section
variable {P : Program} {w : World} {K : PySem.W.Frag} {mg : Str → Option Value} {base : Heap}
/-- what the sheet says, whatever becomes of the box -/
def Sheet (K : PySem.W.Frag) (b : Addr) (h : Hill) (x : V) (G : Hp) : Prop := (Spare h ∧ ∃ n : Int, Dp K (wo [b] G) x (.tuple [.str "spares", .int n]) ∧ 0 ≤ n ∧ ∀ l, Gaps (gcdI h) (Lossy h 0) l → (inB l n).any id = true) ∨
  (¬ Spare h ∧ ∃ lows : List Int, h.Lows lows ∧ Dp K (wo [b] G) x (.tuple [.str "spills", .list ((pairsN h.needs.length lows.length).map duD)]))
theorem dpa_wo {b : Addr} {n : Nat} {G : Hp} (B : Bx b n G) : ∀ {ws : List V} {rs : List (Nat × Nat)}, DpAll K G ws (rs.map duD) → DpAll K (wo [b] G) ws (rs.map duD)
  | [], [], _ => .nil
  | w :: ws, r :: rs, .cons h t => .cons (B.tup rfl h) (dpa_wo B t)
def spPaW (K : PySem.W.Frag) : Sp := fun vs H Q _ => ∃ (b : Addr) (n : Nat) (h : Hill) (v : V), vs = [v] ∧ Bx b n H ∧ Dp K H v (h.dat true) ∧ HillOk h ∧ ∀ x G, Sheet K b h x G → Ex [] H G → Q x G
theorem ok_paW (T : Txt K mg) : FnOk P w K mg base CX0 6 T.a_paper T.d_paper P_paper (spPaW K) := by
  refine fnOk_weak (ok_paper T) fun vs H Q E h => ?_
  obtain ⟨b, n, h, v, rfl, B, hD, hk, q⟩ := h
  refine ⟨true, h, v, rfl, hD, hk, fun y0 y1 l' p G hG hp x => q _ G (.inl ⟨(gaps_spare hk hG).mp (by simp), y0, ?_, (hG.in_ _ List.mem_cons_self).1, fun l hl => ?_⟩) x, fun lows p L ws G lo hG hp hL hL' hA x => q _ G (.inr ⟨fun z => ?_, lows, lo, ?_⟩) x⟩
  · exact (B.ex x (by simp)).tup rfl (.tup (SqT.of hp) (.cons (.str _) (.cons (.int _) .nil)))
  · obtain rfl := hl.uniq hG
    obtain ⟨p0, p1, p2⟩ := hG.in_ _ List.mem_cons_self
    show ((decide (y0 ≤ y0) && decide (y0 ≤ y1)) || _) = true
    rw [decide_eq_true (Int.le_refl y0), decide_eq_true p1]
    rfl
  · have := (gaps_spare hk hG).mpr z
    exact absurd this (Nat.lt_irrefl 0)
  · have BG := B.ex x (by simp)
    have Lb : L ≠ b := B.ne hL
    have pb : p ≠ b := fun z => by
      obtain ⟨_, _, _, hb, _⟩ := BG
      rw [← z, hp] at hb
      cases hb
    refine .tup (SqT.of (wo_of (by simpa using pb) hp)) (.cons (.str _) (.cons (.lst (SqL.of (wo_of (by simpa using Lb) hL')) (dpa_wo BG ?_)) .nil))
    rw [← pairs_eq]
    exact dpa_le (wo_le _ _) _ _ hA
end
end Z64
set_option Elab.async false
set_option linter.all false
set_option maxRecDepth 100000
set_option maxHeartbeats 8000000
namespace Z64
open PySem PySem.Spec PyProof.Rows L2 Hz LamX NdefX
section
variable {P : Program} {w : World} {K : PySem.W.Frag} {mg : Str → Option Value} {base : Heap}
local macro_rules | `(tactic| walk_at "un") => `(tactic| try dsimp only [tSeq, tIfS, tRet, tAsg, tDrop, tOr, tAnd, tNot, tAndV, tOrV, tNotV, tTest, tB, tOp, tUn, tCB, tCons, tNil, tC, tNext, tIf, tChain, gName, tPar, tPar3, tTup, tLst])
local macro_rules | `(tactic| walk_at "ut") => `(tactic| try dsimp only [tNil, tCons, tC, List.append_nil, List.cons_append, List.nil_append])
theorem dpa_pt {K : PySem.W.Frag} {H : Hp} : ∀ {zs : List V} {ds : List PyData}, zs.length = ds.length → (∀ (j : Nat) y d, zs[j]? = some y → ds[j]? = some d → Dp K H y d) → DpAll K H zs ds
  | [], [], _, _ => .nil
  | [], _ :: _, e, _ => by cases e
  | _ :: _, [], e, _ => by cases e
  | z :: zs, d :: ds, e, h => .cons (h 0 z d rfl rfl) (dpa_pt (by simpa using e) fun j y d' a b => h (j + 1) y d' a b)
theorem pairs_succ (n m : Nat) : pairsN (n + 1) m = pairsN n m ++ (List.range m).map fun b => (n, b) := by
  unfold pairsN
  rw [List.range_succ, List.flatMap_append]
  simp
theorem dpa_app {K : PySem.W.Frag} {H : Hp} : ∀ {xs ys : List V} {ds es : List PyData}, DpAll K H xs ds → DpAll K H ys es → DpAll K H (xs ++ ys) (ds ++ es)
  | [], _, [], _, .nil, h => h
  | _ :: _, _, _ :: _, _, .cons a t, h => .cons a (dpa_app t h)
theorem lc_bindLL {K : PySem.W.Frag} {g : TG} {tt : TT} {te : TE} {vs : List Nat} {σ : L2.St} {H : Hp} {tl : TE} {Q : VK} (h : tl σ H fun x H1 => tLc (iList K (tC x)) g tt te vs σ H1 Q) : tLc (iList K tl) g tt te vs σ H Q := h
theorem gcd_le {h : Hill} (hk : HillOk h) : gcdI h ≤ h.drops := Int.le_of_dvd hk.dr (by obtain ⟨d, e⟩ := gcd_drops hk; exact ⟨d, e⟩)
/-- what spares goes on by needs -/
theorem spare_on {h : Hill} (hk : HillOk h) {x : Int} (z : ¬ Lossy h 0 x) : ∀ k : Nat, k < h.needs.length → ¬ Lossy h k (x + h.needN 0 k)
  | 0, _ => by
    have e : h.needN 0 0 = 0 := rfl
    rw [e, Int.add_zero]
    exact z
  | k + 1, l => by
    have ih := spare_on hk z k (by omega)
    have e : h.needN 0 (k + 1) = h.needN 0 k + h.need k := by
      show h.needN 0 k + h.need ((0 + k) % h.needs.length) = _
      rw [Nat.zero_add, Nat.mod_eq_of_lt (by omega)]
    rw [e, ← Int.add_assoc]
    have := (lossy_next hk (show k < h.needs.length by omega) (x + h.needN 0 k))
    rw [Nat.mod_eq_of_lt l] at this
    exact fun c => ih (this.mp c)
theorem need_take {h : Hill} (hk : HillOk h) {k : Nat} (l : k < h.needs.length) : (h.needs.take k).sum = h.needN 0 k := by
  have e := needN_rot hk (a := 0) hk.n1 k
  rw [Nat.div_eq_of_lt l, Nat.mod_eq_of_lt l, List.drop_zero, List.take_zero, List.append_nil] at e
  rw [e]
  omega
theorem cut_first (xs : List V) (n : Nat) (h : n ≤ xs.length) : cutV xs none (some (n : Int)) = xs.take n := by
  unfold cutV
  rw [HT.sIx_none, HT.sIx_nat, List.drop_zero, Nat.sub_zero, Nat.min_eq_left h]
/-- the scope of the comprehension that holds another -/
abbrev kindScope : Scope := relS { kind := .function, names := [(Str.ofString ".0", .local), (Str.ofString "_law_kind", .cell), (Str.ofString "any", .globalImplicit), (Str.ofString "sparing", .globalImplicit), (Str.ofString "_law_brood", .free), (Str.ofString "_law_nest_here", .free), (Str.ofString "_law_part", .free)], isGenerator := false, isCoroutine := false } (defScope s__law_right)
def spRight (K : PySem.W.Frag) : Sp := fun vs H Q _ => ∃ (b : Addr) (n : Nat), vs = [.ref b] ∧ Bx b n H ∧ n ≤ 10 ^ 8 ∧ ∀ H', Ex [b] H H' → Bx b (n + 20000) H' → Q (.bl true) H'
theorem ok_right (T : Txt K mg) : FnOk P w K mg base CX0 9 T.a__law_right T.d__law_right P__law_right (spRight K) := by
  have nd := sc__law_right.nd
  have G__law_common_nest := ok_common_nest (P := P) (w := w) (base := base) T
  have G_common := ok_common (P := P) (w := w) (base := base) T
  have G_paper := ok_paW (P := P) (w := w) (base := base) T
  have G__law_now := ok_now (P := P) (w := w) (base := base) T
  have G_shows_paper := ok_shows_paperG (P := P) (w := w) (base := base) T
  have G_spares := ok_spW (P := P) (w := w) (base := base) T
  have G_stretches := ok_stretches (P := P) (w := w) (base := base) T
  have G__law_take := ok_T (P := P) (w := w) (base := base) T
  have G__law_sparing_right := ok_sparing_right (P := P) (w := w) (base := base) T
  have G_losses := ok_lsW (P := P) (w := w) (base := base) T
  have G_sparing := ok_sparing (P := P) (w := w) (base := base) T
  have G_lost_in_all := ok_lost_in_all (P := P) (w := w) (base := base) T
  refine T.F__law_right.ok sc__law_right (fun vs H Q E h => ?_) (fun cdv A outer s H vs Q E hr h => ?_)
  · obtain ⟨b, n, rfl, _⟩ := h
    rfl
  · obtain ⟨b, n, rfl, hB, hn, q⟩ := h
    have hr__law_common_nest := hr
    have hr_common := hr.mono (show 2 ≤ 8 by decide)
    have hr_paper := hr.mono (show 6 ≤ 8 by decide)
    have hr__law_now := hr.mono (show 7 ≤ 8 by decide)
    have hr_shows_paper := hr.mono (show 7 ≤ 8 by decide)
    have hr_spares := hr.mono (show 6 ≤ 8 by decide)
    have hr_stretches := hr.mono (show 4 ≤ 8 by decide)
    have hr__law_take := hr.mono (show 5 ≤ 8 by decide)
    have hr__law_sparing_right := hr.mono (show 7 ≤ 8 by decide)
    have hr_losses := hr.mono (show 7 ≤ 8 by decide)
    have hr_sparing := hr.mono (show 5 ≤ 8 by decide)
    have hr_lost_in_all := hr.mono (show 6 ≤ 8 by decide)
    have hn' : n ≤ 100000000 := hn
    refine ⟨_, (pss_cons (ps_for PassesOwn.never rfl (pi_range1 (by rfl) T.z_range (pa_cons pe_int pa_nil)) (pg_name (i := 1) nd rfl (Or.inl rfl)) (pss_cons (ps_set (i := 2) nd rfl (Or.inr rfl) (pe_call G__law_common_nest hr__law_common_nest (by rfl) T.m__law_common_nest T.k__law_common_nest T.b__law_common_nest .nil pass0 (pa_cons (pv 0) pa_nil)))
      (pss_cons (ps_asg (pe_tup (pa_cons (pe_call G_common hr_common (by rfl) T.m_common T.k_common T.b_common .nil pass0 (pa_cons (pv 2) pa_nil)) (pa_cons (pe_call G_paper hr_paper (by rfl) T.m_paper T.k_paper T.b_paper .nil pass0 (pa_cons (pv 2) pa_nil)) (pa_cons (pe_call G__law_now hr__law_now (by rfl) T.m__law_now T.k__law_now T.b__law_now .nil pass0 (pa_cons (pv 0) (pa_cons (pv 2) pa_nil))) pa_nil)))) (pg_tupK K 3 (by rfl) (pgs_cons (pg_name (i := 3) nd rfl (Or.inr rfl)) (pgs_cons (pg_name (i := 4) nd rfl (Or.inl rfl)) (pgs_cons (pg_name (i := 5) nd rfl (Or.inl rfl)) pgs_nil)))))
      (pss_cons (ps_if (PW.pt (pw_or (pt_cmpR op_notBl (pe_call G_shows_paper hr_shows_paper (by rfl) T.m_shows_paper T.k_shows_paper T.b_shows_paper .nil pass0 (pa_cons (pv 2) (pa_cons (pv 4) pa_nil))) pe_bl (nomark _)) (pw_or1 (pt_cmpR op_ne (pe_cmpR op_eq (pe_ix (ixK K) (pv 4) pe_int (fun _ _ => rfl)) pe_str (nomark _)) (pe_call G_spares hr_spares (by rfl) T.m_spares T.k_spares T.b_spares .nil pass0 (pa_cons (pv 2) pa_nil)) (nomark _))))) (pss_one (ps_ret pe_bl)) pss_nil)
      (pss_cons (ps_set (i := 6) nd rfl (Or.inl rfl) (pe_lst pa_nil))
      (pss_cons (ps_for PassesOwn.never rfl (pi_range1 (by rfl) T.z_range (pa_cons (pe_callB (lenK K) (by rfl) T.z_len (by decide +kernel) (pa_cons (pe_ix (ixK K) (pv 2) pe_int (fun _ _ => rfl)) pa_nil)) pa_nil)) (pg_name (i := 7) nd rfl (Or.inr rfl)) (pss_one (ps_set (i := 6) nd rfl (Or.inl rfl) (pe_op op_cat (pv 6) (pe_lc (own := [("_law_place", 9)]) (by rfl) nd (pi_range1 (by rfl) T.z_range (pa_cons (pe_callB (lenK K) (by rfl) T.z_len (by decide +kernel) (pa_cons (pe_call G_stretches hr_stretches (by rfl) T.m_stretches T.k_stretches T.b_stretches .nil pass0 (pa_cons (pv 2) pa_nil)) pa_nil)) pa_nil)) (blkOk_by (N := N__law_right) (own := [("_law_place", 9)]) (sc := defScope s__law_right) (by decide +kernel)) (fun _ _ _ _ _ => pg_name (i := 9) nd rfl (Or.inl rfl)) (fun _ _ _ _ _ => pts_nil) (fun _ _ _ _ _ => (pe_tup (pa_cons (pv 7) (pa_cons (pv 9) pa_nil)))))))))
      (pss_cons (ps_if (pt_cmpR op_ne (pe_call G_shows_paper hr_shows_paper (by rfl) T.m_shows_paper T.k_shows_paper T.b_shows_paper .nil pass0 (pa_cons (pv 2) (pa_cons (pe_tup (pa_cons pe_str (pa_cons (pv 6) pa_nil))) pa_nil))) (pe_not (pe_call G_spares hr_spares (by rfl) T.m_spares T.k_spares T.b_spares .nil pass0 (pa_cons (pv 2) pa_nil))) (nomark _)) (pss_one (ps_ret pe_bl)) pss_nil)
      (pss_one (ps_if (pt_val (pe_call G_spares hr_spares (by rfl) T.m_spares T.k_spares T.b_spares .nil pass0 (pa_cons (pv 2) pa_nil))) (pss_cons (ps_set (i := 7) nd rfl (Or.inr rfl) (pe_call G__law_take hr__law_take (by rfl) T.m__law_take T.k__law_take T.b__law_take .nil pass0 (pa_cons (pv 0) (pa_cons (pe_callB (lenK K) (by rfl) T.z_len (by decide +kernel) (pa_cons (pe_ix (ixK K) (pv 2) pe_int (fun _ _ => rfl)) pa_nil)) pa_nil))))
      (pss_cons (ps_if (PW.pt (pw_or (pt_not (pt_val (pe_call G__law_sparing_right hr__law_sparing_right (by rfl) T.m__law_sparing_right T.k__law_sparing_right T.b__law_sparing_right .nil pass0 (pa_cons (pv 2) (pa_cons (pv 7) pa_nil))))) (pw_or1 (pt_cmpR op_gt (pe_callB (lenK K) (by rfl) T.z_len (by decide +kernel) (pa_cons (pe_call G_losses hr_losses (by rfl) T.m_losses T.k_losses T.b_losses .nil pass0 (pa_cons (pv 2) (pa_cons (pv 5) (pa_cons pe_int pa_nil)))) pa_nil)) (pe_callB (lenK K) (by rfl) T.z_len (by decide +kernel) (pa_cons (pv 6) pa_nil)) (nomark _))))) (pss_one (ps_ret pe_bl)) pss_nil)
      (pss_cons (ps_setLc (i := 8) (own := [("_law_kind", 11)]) (by rfl) nd rfl rfl (sw_true rfl rfl rfl (by decide +kernel)) (pi_listK K (pe_lc (own := [("_law_pair", 10)]) (by rfl) nd (pi_seqK K (pe_call G_sparing hr_sparing (by rfl) T.m_sparing T.k_sparing T.b_sparing .nil pass0 (pa_cons (pv 2) (pa_cons pe_int pa_nil)))) (blkOk_by (N := N__law_right) (own := [("_law_pair", 10)]) (sc := defScope s__law_right) (by decide +kernel)) (fun _ _ _ _ _ => pg_name (i := 10) nd rfl (Or.inl rfl)) (fun _ _ _ _ _ => pts_nil) (fun _ _ _ _ _ => (pe_ix (ixK K) (pv 10) pe_int (fun _ _ => rfl))))) (blkOk_by (N := N__law_right) (own := [("_law_kind", 11)]) (sc := defScope s__law_right) (by decide +kernel)) (fun _ _ _ _ _ => pg_name (i := 11) nd rfl (Or.inr rfl)) (fun _ _ _ _ _ => pts_nil) (fun _ _ _ _ _ => (pe_callB (anyK K) (by rfl) T.z_any (by decide +kernel) (pa_cons (pe_lc (own := [("_law_a", 12), ("_law_b", 13)]) (by rfl) nd (pi_seqK K (pe_call G_sparing hr_sparing (by rfl) T.m_sparing T.k_sparing T.b_sparing .nil pass0 (pa_cons (pv 2) (pa_cons (pv 7) pa_nil)))) (blkOk_by (N := N__law_right) (own := [("_law_a", 12), ("_law_b", 13)]) (sc := kindScope) (by decide +kernel)) (fun _ _ _ _ _ => (pg_tupK K 2 (by rfl) (pgs_cons (pg_name (i := 12) nd rfl (Or.inl rfl)) (pgs_cons (pg_name (i := 13) nd rfl (Or.inl rfl)) pgs_nil)))) (fun _ _ _ _ _ => pts_nil) (fun _ _ _ _ _ => (pe_chain op_le op_le (pv 12) (pe_op op_mod (pe_op op_add (pv 11) (pe_callB (sumK K) (by rfl) T.z_sum (by decide +kernel) (pa_cons (pe_slice (slK K) (pe_ix (ixK K) (pv 2) pe_int (fun _ _ => rfl)) po_none (po_some (pv 7))) pa_nil))) (pv 3)) (pv 13)))) pa_nil))))
      (pss_one (ps_if (pt_not (pt_val (pe_callB (allK K) (by rfl) T.z_all (by decide +kernel) (pa_cons (pv 8) pa_nil)))) (pss_one (ps_ret pe_bl)) pss_nil))))) (pss_cons (ps_if (PW.pt (pw_or (pt_val (pe_callB (anyK K) (by rfl) T.z_any (by decide +kernel) (pa_cons (pe_lc (own := [("_law_brood", 7)]) (by rfl) nd (pi_range1 (by rfl) T.z_range (pa_cons (pe_callB (lenK K) (by rfl) T.z_len (by decide +kernel) (pa_cons (pe_ix (ixK K) (pv 2) pe_int (fun _ _ => rfl)) pa_nil)) pa_nil)) (blkOk_by (N := N__law_right) (own := [("_law_brood", 7)]) (sc := defScope s__law_right) (by decide +kernel)) (fun _ _ _ _ _ => pg_name (i := 7) nd rfl (Or.inl rfl)) (fun _ _ _ _ _ => pts_nil) (fun _ _ _ _ _ => (pe_cmpR (neDK K hr.units) (pe_call G_sparing hr_sparing (by rfl) T.m_sparing T.k_sparing T.b_sparing .nil pass0 (pa_cons (pv 2) (pa_cons (pv 7) pa_nil))) (pe_lst pa_nil) (nomark _)))) pa_nil))) (pw_or1 (pt_cmpR op_notN (pe_call G_lost_in_all hr_lost_in_all (by rfl) T.m_lost_in_all T.k_lost_in_all T.b_lost_in_all .nil pass0 (pa_cons (pv 2) (pa_cons (pv 5) pa_nil))) pe_non (nomark _))))) (pss_one (ps_ret pe_bl)) pss_nil)
      (pss_one (ps_if (PW.pt (pw_or (pt_cmpR op_ne (pe_callB (lenK K) (by rfl) T.z_len (by decide +kernel) (pa_cons (pe_call G_losses hr_losses (by rfl) T.m_losses T.k_losses T.b_losses .nil pass0 (pa_cons (pv 2) (pa_cons (pv 5) (pa_cons pe_int pa_nil)))) pa_nil)) pe_int (nomark _)) (pw_or1 (pt_val (pe_call G_shows_paper hr_shows_paper (by rfl) T.m_shows_paper T.k_shows_paper T.b_shows_paper .nil pass0 (pa_cons (pv 2) (pa_cons (pe_tup (pa_cons pe_str (pa_cons (pe_call G__law_take hr__law_take (by rfl) T.m__law_take T.k__law_take T.b__law_take .nil pass0 (pa_cons (pv 0) (pa_cons (pv 3) pa_nil))) pa_nil))) pa_nil))))))) (pss_one (ps_ret pe_bl)) pss_nil))))))))))))
      (pss_one (ps_ret pe_bl))), ?_⟩
    have est : L2.start N__law_right [.ref b] = [some (.ref b), none, none, none, none, none, none, none, none, none, none, none, none, none] := rfl
    rw [est]
    clear est
    walk_at "un"
    refine for_D fun D' eD' => ?_
    refine ⟨_, rfl, by decide, by decide, ?_⟩
    refine for_range (lo := 0) (n := 2) (fun i σ H' => ∃ (u1 u2 u3 u4 u5 u6 u7 u8 : Option V), σ = [some (.ref b), u1, u2, u3, u4, u5, u6, u7, u8, none, none, none, none, none] ∧ Bx b (n + 6000 * i) H' ∧ Ex [b] H H') ⟨_, _, _, _, _, _, _, _, rfl, hB, Ex.refl _ _⟩ (fun i σ H' hi hP => ?_) (fun σ H' hP => ?_)
    · obtain ⟨u1, u2, u3, u4, u5, u6, u7, u8, rfl, B0, x0⟩ := hP
      clear eD'
      dsimp only [gName, List.set_cons_zero, List.set_cons_succ]
      refine asg_join (P := fun x G => ∃ h : Hill, HillOk h ∧ h.year.length ≤ 5 ∧ h.needs.length ≤ 3 ∧ Dp K (wo [b] G) x (h.dat true) ∧ Ex [b] H' G ∧ Bx b (n + 6000 * i + 5200) G) (fun Q' hq => ?_) (fun v H1 hP => ?_)
      · walk_at "ut"
        have t9 : (10 : Nat) ^ 9 = 1000000000 := by decide
        exact ⟨_, rfl, b, _, rfl, B0, by omega, fun h v H1 hk y5 n3 hD x1 B1 => hq _ _ ⟨h, hk, y5, n3, hD, x1, B1⟩⟩
      obtain ⟨h, hk, y5, n3, hD, x1, B1⟩ := hP
      dsimp only [gName, List.set_cons_zero, List.set_cons_succ]
      have g0 := gcd_pos hk
      refine asg_join (P := fun x G => ∃ (p : Addr) (xs u : V) (s : Now), x = .ref p ∧ G p = some (.tup [.int (gcdI h), xs, u]) ∧ Sheet K b h xs G ∧ h.At s ∧ Dp K (wo [b] G) u (s.dat true) ∧ Ex [b] H1 G ∧ Bx b (n + 6000 * i + 5400) G) (fun Q' hq => ?_) (fun x H2 hP => ?_)
      · walk_at "un"
        refine ⟨_, rfl, true, h, v, rfl, dp_le (wo_le _ _) _ _ hD, hk, fun G1 z1 => ?_⟩
        walk_at "ut"
        have hv1 := dp_le z1.le0 _ _ (dp_le (wo_le _ _) _ _ hD)
        have B1' := B1.ex z1 (by simp)
        refine ⟨_, rfl, b, _, h, v, rfl, B1', hv1, hk, fun xs G2 sh z2 => ?_⟩
        walk_at "ut"
        have z12 := z1.trans z2
        refine ⟨_, rfl, _, rfl, b, _, h, v, rfl, B1'.ex z2 (by simp), by omega, dp_le z12.nil.wo _ _ hD, hk, fun s u G3 hs _ hu z3 B3 => ?_⟩
        refine ⟨(by show 3 ≤ sizeLine; decide), fun p hp => ?_⟩
        have y4 := Ex.new (B := []) (o := .tup [.int (gcdI h), xs, u]) hp
        refine hq _ _ ⟨p, xs, u, s, rfl, upd_same, ?_, hs, ?_, (z12.nil.trans z3).trans y4.nil, (B3.ex y4 (by simp)).mono (by omega)⟩
        · have le := (z3.trans y4.nil).wo
          rcases sh with ⟨S, n', d, n0, an⟩ | ⟨S, lows, lo, d⟩
          · exact .inl ⟨S, n', dp_le le _ _ d, n0, an⟩
          · exact .inr ⟨S, lows, lo, dp_le le _ _ d⟩
        · exact dp_le y4.nil.wo _ _ (hu [b] (by simpa using (B1'.ex z2 (by simp)).there))
      obtain ⟨p, xs, u, s, rfl, hp, sh, hs, hu, x2, B2⟩ := hP
      refine ⟨p, _, rfl, SqT.of hp, rfl, _, _, rfl, _, _, rfl, _, _, rfl, rfl, ?_⟩
      try dsimp only [List.set_cons_zero, List.set_cons_succ]
      have hD2 := dp_le x2.wo _ _ hD
      have x02 := x0.trans (x1.trans x2)
      obtain ⟨σ2, eσ⟩ : ∃ σ2 : L2.St, σ2 = [some (.ref b), some (.int (0 + (i : Int))), some v, some (.int (gcdI h)), some xs, some u, u6, u7, u8, none, none, none, none, none] := ⟨_, rfl⟩
      rw [← eσ]
      refine seq_join (P := fun σ' G => σ' = σ2 ∧ Ex [] H2 G) (fun N hN => ?_) (fun σ' H3 hP => ?_)
      · rw [eσ] at hN ⊢
        walk_at "un"
        have hv2 := dp_le (wo_le _ _) _ _ hD2
        rcases sh with ⟨S, n', d, n0, an⟩ | ⟨S, lows, lo, d⟩
        · refine ⟨_, rfl, _, rfl, true, h, v, xs, rfl, hv2, hk, .inl ⟨n', dp_le (wo_le _ _) _ _ d, n0, fun l G hG y => ?_⟩⟩
          rw [an l hG]
          refine ⟨_, _, rfl, rfl, _, rfl, ?_⟩
          rw [decide_eq_true (rfl : true = true)]
          refine iteF ⟨_, rfl, z_ixD (show Dp K G xs (sq true [.str "spares", .int n']) from dp_le y.le0 _ _ (dp_le (wo_le _ _) _ _ d)) (Le.refl _) (j := 0) rfl rfl fun z hz => ?_⟩
          cases hz
          refine ⟨rfl, ?_⟩
          rw [decide_eq_true rfl]
          refine ⟨_, rfl, h, v, rfl, dp_le y.le0 _ _ hv2, hk, fun b2 G2 hb2 y2 => ?_⟩
          obtain rfl : b2 = true := hb2.mpr S
          exact z_neS rfl ⟨_, rfl, iteF (hN _ _ ⟨rfl, y.trans y2⟩)⟩
        · refine ⟨_, rfl, _, rfl, true, h, v, xs, rfl, hv2, hk, .inr ⟨lows, lo, dp_le (wo_le _ _) _ _ d, fun bb G hb y => ?_⟩⟩
          obtain rfl : bb = true := hb.mpr S
          refine ⟨_, _, rfl, rfl, _, rfl, ?_⟩
          rw [decide_eq_true (rfl : true = true)]
          refine iteF ⟨_, rfl, z_ixD (show Dp K G xs (sq true [.str "spills", .list ((pairsN h.needs.length lows.length).map duD)]) from dp_le y.le0 _ _ (dp_le (wo_le _ _) _ _ d)) (Le.refl _) (j := 0) rfl rfl fun z hz => ?_⟩
          cases hz
          refine ⟨rfl, ?_⟩
          rw [decide_eq_false (show ¬ V.str (Str.ofString "spills") = V.str (Str.ofString "spares") from fun z => by injection z with z; exact absurd z (by decide))]
          refine ⟨_, rfl, h, v, rfl, dp_le y.le0 _ _ hv2, hk, fun b2 G2 hb2 y2 => ?_⟩
          obtain rfl : b2 = false := Bool.eq_false_iff.mpr fun z => S (hb2.mp z)
          exact z_neS rfl ⟨_, rfl, iteF (hN _ _ ⟨rfl, y.trans y2⟩)⟩
      obtain ⟨e3, x3⟩ := hP
      rw [e3, eσ]
      clear e3 eσ σ2 σ'
      refine asg_join (P := fun x G => ∃ pl : Addr, x = .ref pl ∧ H3 pl = none ∧ G pl = some (.lst []) ∧ Ex [] H3 G) (fun Q' hq => ?_) (fun x H4 hP => ?_)
      · walk_at "un"
        exact ⟨Nat.zero_le _, fun pl hpl => hq _ _ ⟨pl, rfl, hpl, upd_same, Ex.new hpl⟩⟩
      obtain ⟨pl, rfl, pl0, hpl, x4⟩ := hP
      dsimp only [gName, List.set_cons_zero, List.set_cons_succ]
      obtain ⟨lw, hlw⟩ := Hill.lows_ex (h := h) hk.dr
      have ll := Hill.lows_len hk.L0 hk.nn hk.op hk.dr hk.m0 hlw
      have hL5 : h.L ≤ 5 := y5
      dsimp only [tSeq]
      refine for_D fun D2 eD2 => ?_
      have hD4 := dp_le (Ex.nil (x3.trans x4)).wo _ _ hD2
      have hv4 := dp_le (wo_le [b] _) _ _ hD4
      refine ⟨_, rfl, z_ixD hv4 (Le.refl _) (j := 1) rfl rfl fun nv hn1 => ?_⟩
      obtain ⟨na, ns, rfl, hnS, hnA⟩ := dp_sq (show Dp K H4 nv (sq true (h.needs.map PyData.int)) from hn1)
      have ln : ns.length = h.needs.length := by have := dpa_len hnA; rw [List.length_map] at this; exact this
      refine ⟨na, ns, rfl, hnS.sq, ?_⟩
      rw [ln]
      refine ⟨_, rfl, by omega, by omega, for_range (lo := 0) (n := h.needs.length) (fun j σ G => ∃ (pj : Addr) (us : List V) (u7 : Option V), σ = [some (.ref b), some (.int (0 + (i : Int))), some v, some (.int (gcdI h)), some xs, some u, some (.ref pj), u7, u8, none, none, none, none, none] ∧ H3 pj = none ∧ G pj = some (.lst us) ∧ DpAll K G us ((pairsN j lw.length).map duD) ∧ Ex [] H4 G) ⟨pl, [], _, rfl, pl0, hpl, .nil, Ex.refl _ _⟩ (fun j σ G hj hP => ?_) (fun σ G hP => ?_)⟩
      · obtain ⟨pj, us, u7, rfl, pj0, hpj, hA, xj⟩ := hP
        clear eD2
        dsimp only [gName, List.set_cons_zero, List.set_cons_succ]
        walk_at "un"
        have lus := dpa_len hA
        rw [List.length_map, pairs_len] at lus
        have mj : j * lw.length ≤ 3 * 5 := Nat.mul_le_mul (by omega) (by omega)
        refine ⟨_, rfl, z_lcR (B := []) (C := []) (lo := 0) (n := lw.length) (fun R r => ⟨_, rfl, true, h, v, rfl, dp_le xj.le0 _ _ hv4, hk, fun l us3 p3 G3 hl _ hp3 hA3 y3 => ?_⟩) (fun t y G => Dp K G y (duD (j, t))) (fun _ _ => True) (fun G3 y3 => ⟨⟨by simp, fun _ h => h, fun _ _ _ _ le h => dp_le le _ _ h, fun _ _ _ _ _ _ _ _ => trivial, trivial, by omega⟩, fun t x ht hx D H' hD' nB e1 _ tD N hN => ?_, fun D zs H' hD' hz lz rz e1 _ => ?_⟩)⟩
        · obtain rfl := hl.uniq hlw
          have lu3 : us3.length = l.length := by have := dpa_len (hA3 [] (by simp)); rw [List.length_map] at this; exact this
          refine ⟨p3, us3, rfl, .inl (SqL.of hp3), _, rfl, by omega, by omega, ?_⟩
          rw [lu3]
          exact r _ y3
        · subst hx
          refine ⟨rfl, _, rfl, _, rfl, (by show 2 ≤ sizeLine; decide), fun pt hpt => ?_⟩
          have yt := Ex.new (B := []) (o := .tup [.int (0 + (j : Int)), .int (0 + (t : Int))]) hpt
          refine hN _ _ yt ?_ trivial
          have pD : pt ≠ D := fun z => tD (by rw [← z]; exact hpt)
          have := dpa_of_ints (K := K) (G := wo [D] (upd H' pt (.tup [.int (0 + (j : Int)), .int (0 + (t : Int))]))) [(j : Int), (t : Int)]
          refine .tup (xs := [.int (j : Int), .int (t : Int)]) (SqT.of (wo_of (by simpa using pD) ?_)) this
          rw [upd_same, Int.zero_add, Int.zero_add]
        · have hpj' := (y3.trans e1).1 _ _ (by simp) hpj
          refine ⟨pj, D, us, zs, rfl, rfl, hpj', hz, by rw [lz]; exact Nat.le_trans (show us.length + lw.length ≤ 40 by omega) (by decide), fun pk hpk => ?_⟩
          have yk := Ex.new (B := []) (o := .lst (us ++ zs)) hpk
          have ek := (y3.trans e1).trans yk
          refine ⟨pk, us ++ zs, _, rfl, (x4.trans (xj.trans (y3.trans e1))).free hpk, upd_same, ?_, xj.trans ek⟩
          rw [pairs_succ, List.map_append]
          refine dpa_app (dpa_le ek.le0 _ _ hA) (dpa_pt (by rw [lz, List.length_map, List.length_map, List.length_range]) fun t y d a c => ?_)
          rw [List.map_map, List.getElem?_map] at c
          obtain ⟨t', et, rfl⟩ := Option.map_eq_some_iff.mp c
          have tl : t < lw.length := by rw [← lz]; exact (List.getElem?_eq_some_iff.mp a).1
          rw [List.getElem?_range tl] at et
          cases et
          have := rz t y a
          rw [wo_nil] at this
          exact dp_le yk.le0 _ _ this
      · obtain ⟨pj, us, u7, rfl, pj0, hpj, hA, xj⟩ := hP
        rw [eD2]
        clear eD2 D2
        try dsimp only []
        obtain ⟨σ3, eσ⟩ : ∃ σ3 : L2.St, σ3 = [some (.ref b), some (.int (0 + (i : Int))), some v, some (.int (gcdI h)), some xs, some u, some (.ref pj), u7, u8, none, none, none, none, none] := ⟨_, rfl⟩
        rw [← eσ]
        have vG := dp_le xj.le0 _ _ hv4
        refine seq_join (P := fun σ' G5 => σ' = σ3 ∧ Ex [] G G5) (fun N hN => ?_) (fun σ' G5 hP => ?_)
        · rw [eσ] at hN ⊢
          walk_at "un"
          refine ⟨_, rfl, _, rfl, (by show 2 ≤ sizeLine; decide), fun pt hpt => ?_⟩
          have yt := Ex.new (B := []) (o := .tup [.str (Str.ofString "spills"), .ref pj]) hpt
          refine ⟨true, h, v, .ref pt, rfl, dp_le yt.le0 _ _ vG, hk, .inr ⟨lw, hlw, .tup (SqT.of upd_same) (.cons (.str _) (.cons (.lst (SqL.of (yt.1 _ _ (by simp) hpj)) (dpa_le yt.le0 _ _ hA)) .nil)), fun b1 G1 hb1 y1 => ?_⟩⟩
          refine ⟨_, rfl, h, v, rfl, dp_le (yt.trans y1).le0 _ _ vG, hk, fun b2 G2 hb2 y2 => ?_⟩
          refine ⟨_, rfl, ?_⟩
          have e : (!b2) = b1 := by
            cases b2 with
            | true => cases b1 with
              | true => exact absurd (hb2.mp rfl) (hb1.mp rfl)
              | false => rfl
            | false => cases b1 with
              | true => rfl
              | false => exact (Bool.false_ne_true (hb1.mpr fun z => Bool.false_ne_true (hb2.mpr z))).elim
          rw [e]
          exact z_neS rfl ⟨_, rfl, iteF (hN _ _ ⟨rfl, yt.trans (y1.trans y2)⟩)⟩
        obtain ⟨e3, x5⟩ := hP
        rw [e3, eσ]
        clear e3 eσ σ3 σ'
        have hpj5 := x5.1 _ _ (by simp) hpj
        have vG5 := dp_le x5.le0 _ _ vG
        have x25 := (x3.trans x4).trans (xj.trans x5)
        have B5 := B2.ex x25 (by simp)
        have hD5 := dp_le x25.nil.wo _ _ hD2
        have hu5 := dp_le x25.nil.wo _ _ hu
        have x05 : Ex [b] H G5 := x02.trans x25.nil
        have pjb : pj ≠ b := (B2.ex x3 (by simp)).ne pj0
        have lus := dpa_len hA
        rw [List.length_map, pairs_len] at lus
        clear hA hpj
        by_cases S : Spare h
        · dsimp only [tIfS, tB]
          refine ⟨_, rfl, h, v, rfl, vG5, hk, fun b1 G6 hb1 y6 => ⟨_, rfl, ?_⟩⟩
          obtain rfl : b1 = true := hb1.mpr S
          refine iteT ?_
          refine asg_join (P := fun x G => ∃ r : Nat, x = .int r ∧ r < h.needs.length ∧ Ex [b] G6 G ∧ Bx b (n + 6000 * i + 5500) G) (fun Q' hq => ?_) (fun x G7 hP => ?_)
          · walk_at "un"
            refine ⟨_, rfl, _, rfl, z_ixD (dp_le y6.le0 _ _ vG5) (Le.refl _) (j := 1) rfl rfl fun nv hn1 => ?_⟩
            obtain ⟨na, ns, rfl, hnS, hnA⟩ := dp_sq (show Dp K G6 nv (sq true (h.needs.map PyData.int)) from hn1)
            have ln : ns.length = h.needs.length := by have := dpa_len hnA; rw [List.length_map] at this; exact this
            have n1 := hk.n1
            refine ⟨na, ns, rfl, hnS.sq, ?_⟩
            rw [ln]
            have t35 : (3 : Int) ≤ 10 ^ 35 := by decide
            have t12 : (10 : Nat) ^ 12 = 1000000000000 := by decide
            refine ⟨b, _, _, rfl, B5.ex y6 (by simp), by omega, by omega, by omega, fun r G r0 r1 z B => ?_⟩
            obtain ⟨br, rfl⟩ := Int.eq_ofNat_of_zero_le r0
            exact hq _ _ ⟨br, rfl, by omega, z, B.mono (by omega)⟩
          obtain ⟨br, rfl, brl, z7, B7⟩ := hP
          dsimp only [gName, List.set_cons_zero, List.set_cons_succ]
          have z57 : Ex [b] G5 G7 := y6.nil.trans z7
          have hD7 := dp_le z57.wo _ _ hD5
          have v7 := dp_le (wo_le [b] _) _ _ hD7
          have u7' := dp_le (wo_le [b] _) _ _ (dp_le z57.wo _ _ hu5)
          have hpj7 := z57.1 _ _ (by simpa using pjb) hpj5
          obtain ⟨σ7, eσ⟩ : ∃ σ7 : L2.St, σ7 = [some (.ref b), some (.int (0 + (i : Int))), some v, some (.int (gcdI h)), some xs, some u, some (.ref pj), some (.int (br : Nat)), u8, none, none, none, none, none] := ⟨_, rfl⟩
          rw [← eσ]
          refine seq_join (P := fun σ' G8 => σ' = σ7 ∧ Ex [] G7 G8) (fun N hN => ?_) (fun σ' G8 hP => ?_)
          · rw [eσ] at hN ⊢
            walk_at "un"
            refine ⟨_, rfl, _, rfl, h, v, br, rfl, v7, hk, brl, fun G8 y8 => ⟨_, rfl, iteF ?_⟩⟩
            refine ⟨_, rfl, _, rfl, h, s, v, u, rfl, dp_le y8.le0 _ _ v7, hk, y5, n3, dp_le y8.le0 _ _ u7', hs.an, fun p us2 G10 hp2 l500 cnt _ y10 => ?_⟩
            have c := cnt lw hlw S
            refine ⟨p, us2, rfl, .inl (SqL.of hp2), _, rfl, pj, us, rfl, .inl (SqL.of ((y8.trans y10).1 _ _ (by simp) hpj7)), _, _, rfl, rfl, _, rfl, ?_⟩
            rw [decide_eq_false (by omega)]
            exact iteF (hN _ _ ⟨rfl, y8.trans y10⟩)
          obtain ⟨e3, x8⟩ := hP
          rw [e3, eσ]
          clear e3 eσ σ7 σ'
          have v8 := dp_le x8.le0 _ _ v7
          refine asg_join (P := fun x G => ∃ (D : Addr) (m : Nat), x = .ref D ∧ G D = some (.lst ((List.replicate m true).map V.bl)) ∧ Ex [] G8 G) (fun Q' hq => ?_) (fun x G9 hP => ?_)
          · refine lc_bindLL ?_
            refine lc_bindL ?_
            walk_at "un"
            refine ⟨_, rfl, true, h, v, 0, rfl, v8, hk, fun l p ws G9 hG l900 _ hp hA y9 => ?_⟩
            have lws : ws.length = l.length := by have := dpa_len (hA [] (by simp)); rw [List.length_map] at this; exact this
            have hA9 := dpa_le (wo_le _ _) _ _ (hA [] (by simp))
            refine z_lcL1 (xs := ws) (fun R r => r p G9 (Ex.refl _ _) (SqL.of hp)) (by omega) (fun i => ((l[i]?).map fun r => V.int r.1).getD .non) (fun i x H' hx e N hN => ?_) (fun D G10 hD1 hz1 y10 => ?_)
            · obtain ⟨d, hd1, hDx⟩ := dpa_get' hA9 hx
              rw [List.getElem?_map] at hd1
              obtain ⟨r, hr1, rfl⟩ := Option.map_eq_some_iff.mp hd1
              refine ⟨rfl, _, rfl, z_ixD (dp_le e.le0 _ _ hDx) (Le.refl _) (j := 0) rfl rfl fun z hz => ?_⟩
              obtain rfl := dp_int hz
              have := hN H' (Ex.refl _ _)
              rw [hr1] at this
              exact this
            rw [lws, map_at] at hz1
            refine z_lcL1 (xs := l.map fun r => V.int r.1) (fun R r => r D G10 (Ex.refl _ _) (SqL.of hz1)) (by rw [List.length_map]; omega) (fun _ => V.bl true) (fun i x G hx e N hN => ?_) (fun D2 G hD2 hz2 y11 => hq _ _ ⟨D2, l.length, rfl, ?_, y9.trans (y10.trans y11)⟩)
            · rw [List.getElem?_map] at hx
              obtain ⟨r, hr1, rfl⟩ := Option.map_eq_some_iff.mp hx
              have rm := List.mem_of_getElem? hr1
              obtain ⟨p0, p1, p2⟩ := hG.in_ r rm
              have sp0 : ¬ Lossy h 0 r.1 := (hG.eq r.1 p0 (by omega)).mp ⟨r, rm, Int.le_refl _, p1⟩
              have sp1 := spare_on hk sp0 br brl
              refine ⟨rfl, ?_⟩
              dsimp only [tCB, tCons]
              refine lc_bindL ?_
              walk_at "un"
              have vG := dp_le (y9.trans (y10.trans e)).le0 _ _ v8
              refine ⟨_, rfl, _, rfl, true, h, v, br, rfl, vG, hk, fun l2 p2' ws2 G2 hG2 l2900 _ hp2 hA2 y12 => ?_⟩
              have lws2 : ws2.length = l2.length := by have := dpa_len (hA2 [] (by simp)); rw [List.length_map] at this; exact this
              have hA92 := dpa_le (wo_le _ _) _ _ (hA2 [] (by simp))
              have v2 := dp_le y12.le0 _ _ vG
              refine z_lcL1 (xs := ws2) (fun R r => r p2' G2 (Ex.refl _ _) (SqL.of hp2)) (by omega) (fun q => ((l2[q]?).map fun r2 => V.bl (decide (r2.1 ≤ (r.1 + h.needN 0 br) % gcdI h) && decide ((r.1 + h.needN 0 br) % gcdI h ≤ r2.2))).getD .non) (fun q x G3 hx3 e3 N3 hN3 => ?_) (fun D3 G3 hD3 hz3 y13 => ?_)
              · obtain ⟨d, hd1, hDx⟩ := dpa_get' hA92 hx3
                rw [List.getElem?_map] at hd1
                obtain ⟨r2, hr2, rfl⟩ := Option.map_eq_some_iff.mp hd1
                obtain ⟨xa, xs2, rfl, hXS, hXA⟩ := dp_tup (show Dp K G3 x (.tuple [.int r2.1, .int r2.2]) from dp_le e3.le0 _ _ hDx)
                cases hXA with | cons g1 hXA => cases hXA with | cons g2 hXA =>
                cases hXA
                obtain rfl := dp_int g1
                obtain rfl := dp_int g2
                refine ⟨xa, _, rfl, hXS, rfl, _, _, rfl, _, _, rfl, rfl, ?_⟩
                refine ⟨rfl, ?_⟩
                dsimp only [wipe, List.map, List.foldl, List.set_cons_zero, List.set_cons_succ]
                walk_at "un"
                refine ⟨_, rfl, _, rfl, _, rfl, z_ixD (dp_le e3.le0 _ _ v2) (Le.refl _) (j := 1) rfl rfl fun nv hn1 => ?_⟩
                obtain ⟨na, ns, rfl, hnS, hnA⟩ := dp_sq (show Dp K G3 nv (sq true (h.needs.map PyData.int)) from hn1)
                obtain rfl := dpa_ints hnA
                refine ⟨_, rfl, _, rfl, z_sl (t := true) hnS fun p5 G5 y5' s5 => ?_⟩
                rw [cut_first _ br (by rw [List.length_map]; omega), ← List.map_take] at s5
                refine ⟨p5, h.needs.take br, rfl, .inr s5, ?_⟩
                rw [need_take hk brl]
                refine ⟨_, _, rfl, rfl, _, rfl, _, _, rfl, rfl, g0, _, _, rfl, rfl, _, rfl, ?_⟩
                have q1 := hN3 G5 y5'
                rw [hr2] at q1
                have q1 : N3 (.bl (decide (r2.1 ≤ (r.1 + h.needN 0 br) % gcdI h) && decide ((r.1 + h.needN 0 br) % gcdI h ≤ r2.2))) G5 := q1
                by_cases c : r2.1 ≤ (r.1 + h.needN 0 br) % gcdI h
                · rw [if_pos (decide_eq_true c)]
                  rw [decide_eq_true c, Bool.true_and] at q1
                  exact ⟨_, rfl, _, _, rfl, rfl, q1⟩
                · rw [if_neg (by rw [decide_eq_false c]; exact Bool.false_ne_true)]
                  rw [decide_eq_false c, Bool.false_and] at q1
                  exact q1
              · rw [lws2, map_at] at hz3
                refine ⟨D3, inB l2 ((r.1 + h.needN 0 br) % gcdI h), rfl, SqL.of (by rw [hz3]; unfold inB; rw [List.map_map]; rfl), ?_⟩
                rw [(due_iff hk hG2 (x := r.1 + h.needN 0 br) (y := r.1 + h.needN 0 br) rfl).mpr sp1]
                exact hN _ (y12.trans y13)
            · rw [hz2, List.length_map, List.map_replicate, List.map_const', List.length_range]
          obtain ⟨D, m, rfl, hDm, x9⟩ := hP
          dsimp only [gName, List.set_cons_zero, List.set_cons_succ]
          walk_at "un"
          refine ⟨_, rfl, D, _, rfl, SqL.of hDm, ?_⟩
          have ea : (List.replicate m true).all id = true := by
            rw [List.all_eq_true]
            intro z hz
            rw [List.eq_of_mem_replicate hz]
            rfl
          rw [ea]
          refine ⟨_, rfl, iteF ⟨_, _, _, _, _, _, _, _, rfl, ?_, ?_⟩⟩
          · exact (B7.ex (x8.trans x9) (by simp)).mono (by omega)
          · exact x05.trans (z57.trans (x8.trans x9).nil)
        · dsimp only [tIfS, tB]
          refine ⟨_, rfl, h, v, rfl, vG5, hk, fun b1 G6 hb1 y6 => ⟨_, rfl, ?_⟩⟩
          obtain rfl : b1 = false := Bool.eq_false_iff.mpr fun z => S (hb1.mp z)
          refine iteF ?_
          have al0 : ∀ a, a < h.needs.length → ∀ y, Lossy h a y := fun a ha => all_same hk hk.n1 ha (fun y => no_spare S y)
          walk_at "un"
          refine z_lcRF (lo := 0) (n := h.needs.length) (fun R r => ⟨_, rfl, z_ixD (dp_le y6.le0 _ _ vG5) (Le.refl _) (j := 1) rfl rfl fun nv hn1 => ?_⟩) (by omega) (fun _ => true) (fun _ => V.bl false) (fun G7 y7 q0 hq D G8 hD3 y8 _ N M hN _ => ?_) (fun G7 y7 D G8 hD3 hz y8 => ?_)
          · obtain ⟨na, ns, rfl, hnS, hnA⟩ := dp_sq (show Dp K G6 nv (sq true (h.needs.map PyData.int)) from hn1)
            have ln : ns.length = h.needs.length := by have := dpa_len hnA; rw [List.length_map] at this; exact this
            refine ⟨na, ns, rfl, hnS.sq, ?_⟩
            rw [ln]
            exact ⟨_, rfl, by omega, by omega, r _ (Ex.refl _ _)⟩
          · refine ⟨rfl, ?_⟩
            dsimp only [tYes]
            refine iteT ?_
            walk_at "un"
            refine ⟨_, rfl, _, rfl, true, h, v, q0, by rw [Int.zero_add]; rfl, dp_le (y6.trans (y7.trans y8)).le0 _ _ vG5, hk, fun l p ws G9 hG _ _ hp hW y9 => ⟨Nat.zero_le _, fun pe hpe => ?_⟩⟩
            obtain rfl := gaps_nil hk (al0 q0 hq) hG
            have ye := Ex.new (B := []) (o := .lst []) hpe
            have lw0 := dpa_len (hW [] (by simp))
            have : ws = [] := List.length_eq_zero_iff.mp lw0
            subst this
            exact z_ne (d := .list []) (n := 1) (.lst (SqL.of (ye.1 _ _ (by simp) hp)) .nil) (.lst (SqL.of upd_same) .nil) (fun d hd => by cases hd) (by decide) (hN rfl _ (y9.trans ye))
          · have ef : ((List.range h.needs.length).filter fun _ => true).map (fun _ : Nat => V.bl false) = (List.replicate h.needs.length false).map V.bl := by
              rw [List.filter_eq_self.mpr (fun _ _ => rfl), List.map_replicate, List.map_const', List.length_range]
            rw [ef] at hz
            refine ⟨D, _, rfl, SqL.of hz, ?_⟩
            have ea : (List.replicate h.needs.length false).any id = false := by
              rw [Bool.eq_false_iff]
              intro z
              obtain ⟨x, hx, e⟩ := List.any_eq_true.mp z
              rw [List.eq_of_mem_replicate hx] at e
              cases e
            rw [ea]
            refine ⟨_, rfl, iteF ?_⟩
            have y68 := y6.trans (y7.trans y8)
            have hu8 : Dp K G8 u (s.dat true) := dp_le (wo_le [b] _) _ _ (dp_le y68.nil.wo _ _ hu5)
            refine ⟨_, rfl, _, rfl, true, true, h, s, v, u, rfl, dp_le y68.le0 _ _ vG5, hk, hu8, hs.an, fun G9 _ y9 => ⟨rfl, ?_⟩, fun d G9 D _ => (D.sp (al0 _ hs.an _)).elim⟩
            rw [decide_eq_true (rfl : V.non = V.non)]
            refine ⟨_, rfl, iteF ?_⟩
            have y69 := y68.trans y9
            refine ⟨_, rfl, _, rfl, h, s, v, u, rfl, dp_le y69.le0 _ _ vG5, hk, y5, n3, dp_le y9.le0 _ _ hu8, hs.an, fun p us2 G10 hp2 l500 _ cnt y10 => ?_⟩
            have c100 := cnt S
            refine ⟨p, us2, rfl, .inl (SqL.of hp2), ?_⟩
            rw [c100]
            refine z_neS rfl ⟨_, rfl, iteF ?_⟩
            have y6a := y69.trans y10
            have gl := gcd_le hk
            refine ⟨_, rfl, _, rfl, _, rfl, b, _, _, rfl, B5.ex y6a (by simp), ?_, by omega, ?_, fun rr G11 r0 r1 z11 B11 => ⟨(by show 2 ≤ sizeLine; decide), fun pt hpt => ?_⟩⟩
            · have : (10 : Nat) ^ 12 = 1000000000000 := by decide
              omega
            · have := hk.dm
              omega
            have yt := Ex.new (B := []) (o := .tup [.str (Str.ofString "spares"), .int rr]) hpt
            have vt : Dp K (upd G11 pt (.tup [.str (Str.ofString "spares"), .int rr])) v (h.dat true) := dp_le (wo_le [b] _) _ _ (dp_le (y6a.nil.trans (z11.trans yt.nil)).wo _ _ hD5)
            refine ⟨true, h, v, .ref pt, rfl, vt, hk, .inl ⟨rr, .tup (SqT.of upd_same) (.cons (.str _) (.cons (.int _) .nil)), r0, fun l G12 hG y12 => ?_⟩⟩
            obtain rfl := gaps_nil hk (al0 0 hk.n1) hG
            refine ⟨_, rfl, iteF ⟨_, _, _, _, _, _, _, _, rfl, ?_, ?_⟩⟩
            · exact (B11.ex (yt.trans y12) (by simp)).mono (by omega)
            · exact x05.trans (y6a.nil.trans (z11.trans (yt.trans y12).nil))
    · obtain ⟨u1, u2, u3, u4, u5, u6, u7, u8, rfl, B0, x0⟩ := hP
      rw [eD']
      walk_at "un"
      exact q _ x0 (B0.mono (by omega))
end
end Z64
set_option Elab.async false
set_option linter.all false
set_option maxRecDepth 100000
set_option maxHeartbeats 4000000
namespace Z64
open PySem PySem.Spec PyProof.Rows L2 Hz
section
variable {P : Program} {w : World} {K : PySem.W.Frag} {mg : Str → Option Value} {base : Heap}
local macro_rules | `(tactic| walk_at "un") => `(tactic| try dsimp only [tSeq, tIfS, tRet, tAsg, tDrop, tOr, tAnd, tNot, tAndV, tOrV, tNotV, tTest, tB, tOp, tUn, tCB, tCons, tNil, tC, tNext, tIf, tChain, gName, tPar, tPar3, tTup, tLst])
def lawLevel : Nat := 9 + 1
def spLaw (K : PySem.W.Frag) : Sp := fun vs H Q _ => ∃ (a : Addr) (ns : List Int), vs = [.ref a] ∧ SqL K H a (ns.map V.int) ∧ ns.length ≤ 63 ∧ ∀ H', Q (.bl true) H'
theorem ok_law (T : Txt K mg) : FnOk P w K mg base CX0 lawLevel T.a_law T.d_law P_law (spLaw K) := by
  have nd := sc_law.nd
  have G__law_folded := ok_folded (P := P) (w := w) (base := base) T
  have G__law_box := ok_box (P := P) (w := w) (base := base) T
  have G__law_right := ok_right (P := P) (w := w) (base := base) T
  refine T.F_law.ok sc_law (fun vs H Q E h => ?_) (fun cdv A outer s H vs Q E hr h => ?_)
  · obtain ⟨a, ns, rfl, _⟩ := h
    rfl
  · obtain ⟨a, ns, rfl, hS, hn, q⟩ := h
    have hr__law_folded := hr.mono (show 1 ≤ 9 by decide)
    have hr__law_box := hr.mono (show 1 ≤ 9 by decide)
    have hr__law_right := hr
    refine ⟨_, (pss_cons (ps_set (i := 1) nd rfl (Or.inr rfl) (pe_call G__law_folded hr__law_folded (by rfl) T.m__law_folded T.k__law_folded T.b__law_folded .nil pass0 (pa_cons (pv 0) (pa_cons pe_int pa_nil))))
      (pss_one (ps_ret (pe_callB (allK K) (by rfl) T.z_all (by decide +kernel) (pa_cons (pe_lc (own := [("_law_k", 2)]) (by rfl) nd (pi_range1 (by rfl) T.z_range (pa_cons (pe_callB (call_max2 rfl) (by rfl) T.z_max (by decide +kernel) (pa_cons pe_int (pa_cons (pe_callB (lenK K) (by rfl) T.z_len (by decide +kernel) (pa_cons (pv 1) pa_nil)) pa_nil))) pa_nil)) (blkOk_by (N := N_law) (own := [("_law_k", 2)]) (sc := defScope s_law) (by decide +kernel)) (fun _ _ _ _ _ => pg_name (i := 2) nd rfl (Or.inl rfl)) (fun _ _ _ _ _ => pts_nil) (fun _ _ _ _ _ => (pe_call G__law_right hr__law_right (by rfl) T.m__law_right T.k__law_right T.b__law_right .nil pass0 (pa_cons (pe_call G__law_box hr__law_box (by rfl) T.m__law_box T.k__law_box T.b__law_box .nil pass0 (pa_cons (pv 1) (pa_cons (pv 2) pa_nil))) pa_nil)))) pa_nil))))), ?_⟩
    walk_at "un"
    refine ⟨_, rfl, a, ns, 2, rfl, hS, hn, by decide, by decide, fun p H1 ms hp x1 hm lm => ?_⟩
    walk_at "un"
    have hC : SqL K H1 p (ms.map V.int) := SqL.of hm
    refine z_lcR (B := []) (C := []) (lo := 0) (n := (if ((ms.map V.int).length : Int) > 1 then ((ms.map V.int).length : Int) else 1).toNat)
      (fun R r => ⟨_, rfl, _, _, rfl, .inl hC, _, _, rfl, _, rfl, by split <;> omega, by rw [List.length_map]; split <;> omega, r H1 (Ex.refl _ _)⟩) (fun _ z _ => z = .bl true) (fun _ _ => True)
      (fun H2 x2 => ⟨lcOk0 (by rw [List.length_map]; split <;> omega), fun i x hi hx D H' hD' nB e1 _ tD N hN => ?_, fun D zs H' hD' hz lz rz e1 _ => ?_⟩)
    · subst hx
      rw [Int.zero_add]
      have hi4 : i < 64 := by rw [List.length_map] at hi; split at hi <;> omega
      refine ⟨rfl, _, rfl, _, rfl, p, ms, i, rfl, le_l (x2.trans e1).le0 hC, hi4, fun pb H4 hpb x4 B4 => ?_⟩
      refine ⟨pb, 0, rfl, B4, by decide, fun H5 x5 _ => ?_⟩
      exact hN _ H5 (Ex.drop hpb ((Ex.nil x4).trans x5)) rfl trivial
    · have ez : zs = (List.replicate zs.length true).map V.bl := by
        apply List.ext_getElem?
        intro j
        rw [List.map_replicate]
        by_cases c : j < zs.length
        · rw [List.getElem?_eq_getElem c, rz j _ (List.getElem?_eq_getElem c), List.getElem?_replicate, if_pos c]
        · rw [List.getElem?_eq_none (by omega), List.getElem?_eq_none (by rw [List.length_replicate]; omega)]
      refine ⟨D, List.replicate zs.length true, rfl, SqL.of (by rw [hz, ← ez]), ?_⟩
      have ea : (List.replicate zs.length true).all id = true := by
        rw [List.all_eq_true]
        intro z hz
        rw [List.eq_of_mem_replicate hz]
        rfl
      rw [ea]
      exact q H'
end
theorem all_mk {l : PySem.W.OpenLaw} {w : World} {K : PySem.W.Frag} {h : Heap} {mg : Str → Option Value} {fa : Addr} (X : K.In h) (G : h.Ns mainGlobals mg) (hfa : mg "law" = some (.ref fa))
    {f0 : Addr} {od0 an0 : Option Addr} {sl0 : Array (Option Value)} {oc0 kV0 dc0 pm0 cd0 ct0 : Value}
    (a0 : PySem.W.nsIn K mainGlobals "is_number" = some (some (.ref f0))) (l0 : K.lookup f0 = some ⟨oc0, od0, .func (PySem.W.fnOf "is_number" "is_number" (defArgs s_is_number) (defBody s_is_number) (defScope s_is_number) .none kV0 dc0 pm0 an0 cd0 ct0), sl0⟩) (c0 : PySem.W.codeIn K cd0 "is_number" = true) (k0 : PySem.W.keepIn K (.ref f0) = true)
    {f1 : Addr} {od1 an1 : Option Addr} {sl1 : Array (Option Value)} {oc1 kV1 dc1 pm1 cd1 ct1 : Value}
    (a1 : PySem.W.nsIn K mainGlobals "is_tuple_of" = some (some (.ref f1))) (l1 : K.lookup f1 = some ⟨oc1, od1, .func (PySem.W.fnOf "is_tuple_of" "is_tuple_of" (defArgs s_is_tuple_of) (defBody s_is_tuple_of) (defScope s_is_tuple_of) .none kV1 dc1 pm1 an1 cd1 ct1), sl1⟩) (c1 : PySem.W.codeIn K cd1 "is_tuple_of" = true) (k1 : PySem.W.keepIn K (.ref f1) = true)
    {f2 : Addr} {od2 an2 : Option Addr} {sl2 : Array (Option Value)} {oc2 kV2 dc2 pm2 cd2 ct2 : Value}
    (a2 : PySem.W.nsIn K mainGlobals "year_drops" = some (some (.ref f2))) (l2 : K.lookup f2 = some ⟨oc2, od2, .func (PySem.W.fnOf "year_drops" "year_drops" (defArgs s_year_drops) (defBody s_year_drops) (defScope s_year_drops) .none kV2 dc2 pm2 an2 cd2 ct2), sl2⟩) (c2 : PySem.W.codeIn K cd2 "year_drops" = true) (k2 : PySem.W.keepIn K (.ref f2) = true)
    {f3 : Addr} {od3 an3 : Option Addr} {sl3 : Array (Option Value)} {oc3 kV3 dc3 pm3 cd3 ct3 : Value}
    (a3 : PySem.W.nsIn K mainGlobals "ring_needs" = some (some (.ref f3))) (l3 : K.lookup f3 = some ⟨oc3, od3, .func (PySem.W.fnOf "ring_needs" "ring_needs" (defArgs s_ring_needs) (defBody s_ring_needs) (defScope s_ring_needs) .none kV3 dc3 pm3 an3 cd3 ct3), sl3⟩) (c3 : PySem.W.codeIn K cd3 "ring_needs" = true) (k3 : PySem.W.keepIn K (.ref f3) = true)
    {f4 : Addr} {od4 an4 : Option Addr} {sl4 : Array (Option Value)} {oc4 kV4 dc4 pm4 cd4 ct4 : Value}
    (a4 : PySem.W.nsIn K mainGlobals "given_by" = some (some (.ref f4))) (l4 : K.lookup f4 = some ⟨oc4, od4, .func (PySem.W.fnOf "given_by" "given_by" (defArgs s_given_by) (defBody s_given_by) (defScope s_given_by) .none kV4 dc4 pm4 an4 cd4 ct4), sl4⟩) (c4 : PySem.W.codeIn K cd4 "given_by" = true) (k4 : PySem.W.keepIn K (.ref f4) = true)
    {f5 : Addr} {od5 an5 : Option Addr} {sl5 : Array (Option Value)} {oc5 kV5 dc5 pm5 cd5 ct5 : Value}
    (a5 : PySem.W.nsIn K mainGlobals "open_from" = some (some (.ref f5))) (l5 : K.lookup f5 = some ⟨oc5, od5, .func (PySem.W.fnOf "open_from" "open_from" (defArgs s_open_from) (defBody s_open_from) (defScope s_open_from) .none kV5 dc5 pm5 an5 cd5 ct5), sl5⟩) (c5 : PySem.W.codeIn K cd5 "open_from" = true) (k5 : PySem.W.keepIn K (.ref f5) = true)
    {f6 : Addr} {od6 an6 : Option Addr} {sl6 : Array (Option Value)} {oc6 kV6 dc6 pm6 cd6 ct6 : Value}
    (a6 : PySem.W.nsIn K mainGlobals "day_of" = some (some (.ref f6))) (l6 : K.lookup f6 = some ⟨oc6, od6, .func (PySem.W.fnOf "day_of" "day_of" (defArgs s_day_of) (defBody s_day_of) (defScope s_day_of) .none kV6 dc6 pm6 an6 cd6 ct6), sl6⟩) (c6 : PySem.W.codeIn K cd6 "day_of" = true) (k6 : PySem.W.keepIn K (.ref f6) = true)
    {f7 : Addr} {od7 an7 : Option Addr} {sl7 : Array (Option Value)} {oc7 kV7 dc7 pm7 cd7 ct7 : Value}
    (a7 : PySem.W.nsIn K mainGlobals "line_of" = some (some (.ref f7))) (l7 : K.lookup f7 = some ⟨oc7, od7, .func (PySem.W.fnOf "line_of" "line_of" (defArgs s_line_of) (defBody s_line_of) (defScope s_line_of) .none kV7 dc7 pm7 an7 cd7 ct7), sl7⟩) (c7 : PySem.W.codeIn K cd7 "line_of" = true) (k7 : PySem.W.keepIn K (.ref f7) = true)
    {f8 : Addr} {od8 an8 : Option Addr} {sl8 : Array (Option Value)} {oc8 kV8 dc8 pm8 cd8 ct8 : Value}
    (a8 : PySem.W.nsIn K mainGlobals "given_next" = some (some (.ref f8))) (l8 : K.lookup f8 = some ⟨oc8, od8, .func (PySem.W.fnOf "given_next" "given_next" (defArgs s_given_next) (defBody s_given_next) (defScope s_given_next) .none kV8 dc8 pm8 an8 cd8 ct8), sl8⟩) (c8 : PySem.W.codeIn K cd8 "given_next" = true) (k8 : PySem.W.keepIn K (.ref f8) = true)
    {f9 : Addr} {od9 an9 : Option Addr} {sl9 : Array (Option Value)} {oc9 kV9 dc9 pm9 cd9 ct9 : Value}
    (a9 : PySem.W.nsIn K mainGlobals "stretches" = some (some (.ref f9))) (l9 : K.lookup f9 = some ⟨oc9, od9, .func (PySem.W.fnOf "stretches" "stretches" (defArgs s_stretches) (defBody s_stretches) (defScope s_stretches) .none kV9 dc9 pm9 an9 cd9 ct9), sl9⟩) (c9 : PySem.W.codeIn K cd9 "stretches" = true) (k9 : PySem.W.keepIn K (.ref f9) = true)
    {f10 : Addr} {od10 an10 : Option Addr} {sl10 : Array (Option Value)} {oc10 kV10 dc10 pm10 cd10 ct10 : Value}
    (a10 : PySem.W.nsIn K mainGlobals "lost_at" = some (some (.ref f10))) (l10 : K.lookup f10 = some ⟨oc10, od10, .func (PySem.W.fnOf "lost_at" "lost_at" (defArgs s_lost_at) (defBody s_lost_at) (defScope s_lost_at) .none kV10 dc10 pm10 an10 cd10 ct10), sl10⟩) (c10 : PySem.W.codeIn K cd10 "lost_at" = true) (k10 : PySem.W.keepIn K (.ref f10) = true)
    {f11 : Addr} {od11 an11 : Option Addr} {sl11 : Array (Option Value)} {oc11 kV11 dc11 pm11 cd11 ct11 : Value}
    (a11 : PySem.W.nsIn K mainGlobals "needed" = some (some (.ref f11))) (l11 : K.lookup f11 = some ⟨oc11, od11, .func (PySem.W.fnOf "needed" "needed" (defArgs s_needed) (defBody s_needed) (defScope s_needed) .none kV11 dc11 pm11 an11 cd11 ct11), sl11⟩) (c11 : PySem.W.codeIn K cd11 "needed" = true) (k11 : PySem.W.keepIn K (.ref f11) = true)
    {f12 : Addr} {od12 an12 : Option Addr} {sl12 : Array (Option Value)} {oc12 kV12 dc12 pm12 cd12 ct12 : Value}
    (a12 : PySem.W.nsIn K mainGlobals "common" = some (some (.ref f12))) (l12 : K.lookup f12 = some ⟨oc12, od12, .func (PySem.W.fnOf "common" "common" (defArgs s_common) (defBody s_common) (defScope s_common) .none kV12 dc12 pm12 an12 cd12 ct12), sl12⟩) (c12 : PySem.W.codeIn K cd12 "common" = true) (k12 : PySem.W.keepIn K (.ref f12) = true)
    {f13 : Addr} {od13 an13 : Option Addr} {sl13 : Array (Option Value)} {oc13 kV13 dc13 pm13 cd13 ct13 : Value}
    (a13 : PySem.W.nsIn K mainGlobals "unmet" = some (some (.ref f13))) (l13 : K.lookup f13 = some ⟨oc13, od13, .func (PySem.W.fnOf "unmet" "unmet" (defArgs s_unmet) (defBody s_unmet) (defScope s_unmet) .none kV13 dc13 pm13 an13 cd13 ct13), sl13⟩) (c13 : PySem.W.codeIn K cd13 "unmet" = true) (k13 : PySem.W.keepIn K (.ref f13) = true)
    {f14 : Addr} {od14 an14 : Option Addr} {sl14 : Array (Option Value)} {oc14 kV14 dc14 pm14 cd14 ct14 : Value}
    (a14 : PySem.W.nsIn K mainGlobals "sparing" = some (some (.ref f14))) (l14 : K.lookup f14 = some ⟨oc14, od14, .func (PySem.W.fnOf "sparing" "sparing" (defArgs s_sparing) (defBody s_sparing) (defScope s_sparing) .none kV14 dc14 pm14 an14 cd14 ct14), sl14⟩) (c14 : PySem.W.codeIn K cd14 "sparing" = true) (k14 : PySem.W.keepIn K (.ref f14) = true)
    {f15 : Addr} {od15 an15 : Option Addr} {sl15 : Array (Option Value)} {oc15 kV15 dc15 pm15 cd15 ct15 : Value}
    (a15 : PySem.W.nsIn K mainGlobals "spares" = some (some (.ref f15))) (l15 : K.lookup f15 = some ⟨oc15, od15, .func (PySem.W.fnOf "spares" "spares" (defArgs s_spares) (defBody s_spares) (defScope s_spares) .none kV15 dc15 pm15 an15 cd15 ct15), sl15⟩) (c15 : PySem.W.codeIn K cd15 "spares" = true) (k15 : PySem.W.keepIn K (.ref f15) = true)
    {f16 : Addr} {od16 an16 : Option Addr} {sl16 : Array (Option Value)} {oc16 kV16 dc16 pm16 cd16 ct16 : Value}
    (a16 : PySem.W.nsIn K mainGlobals "lost_in_all" = some (some (.ref f16))) (l16 : K.lookup f16 = some ⟨oc16, od16, .func (PySem.W.fnOf "lost_in_all" "lost_in_all" (defArgs s_lost_in_all) (defBody s_lost_in_all) (defScope s_lost_in_all) .none kV16 dc16 pm16 an16 cd16 ct16), sl16⟩) (c16 : PySem.W.codeIn K cd16 "lost_in_all" = true) (k16 : PySem.W.keepIn K (.ref f16) = true)
    {f17 : Addr} {od17 an17 : Option Addr} {sl17 : Array (Option Value)} {oc17 kV17 dc17 pm17 cd17 ct17 : Value}
    (a17 : PySem.W.nsIn K mainGlobals "gone_back" = some (some (.ref f17))) (l17 : K.lookup f17 = some ⟨oc17, od17, .func (PySem.W.fnOf "gone_back" "gone_back" (defArgs s_gone_back) (defBody s_gone_back) (defScope s_gone_back) .none kV17 dc17 pm17 an17 cd17 ct17), sl17⟩) (c17 : PySem.W.codeIn K cd17 "gone_back" = true) (k17 : PySem.W.keepIn K (.ref f17) = true)
    {f18 : Addr} {od18 an18 : Option Addr} {sl18 : Array (Option Value)} {oc18 kV18 dc18 pm18 cd18 ct18 : Value}
    (a18 : PySem.W.nsIn K mainGlobals "least_steps" = some (some (.ref f18))) (l18 : K.lookup f18 = some ⟨oc18, od18, .func (PySem.W.fnOf "least_steps" "least_steps" (defArgs s_least_steps) (defBody s_least_steps) (defScope s_least_steps) .none kV18 dc18 pm18 an18 cd18 ct18), sl18⟩) (c18 : PySem.W.codeIn K cd18 "least_steps" = true) (k18 : PySem.W.keepIn K (.ref f18) = true)
    {f19 : Addr} {od19 an19 : Option Addr} {sl19 : Array (Option Value)} {oc19 kV19 dc19 pm19 cd19 ct19 : Value}
    (a19 : PySem.W.nsIn K mainGlobals "loss_turn" = some (some (.ref f19))) (l19 : K.lookup f19 = some ⟨oc19, od19, .func (PySem.W.fnOf "loss_turn" "loss_turn" (defArgs s_loss_turn) (defBody s_loss_turn) (defScope s_loss_turn) .none kV19 dc19 pm19 an19 cd19 ct19), sl19⟩) (c19 : PySem.W.codeIn K cd19 "loss_turn" = true) (k19 : PySem.W.keepIn K (.ref f19) = true)
    {f20 : Addr} {od20 an20 : Option Addr} {sl20 : Array (Option Value)} {oc20 kV20 dc20 pm20 cd20 ct20 : Value}
    (a20 : PySem.W.nsIn K mainGlobals "mark_behind" = some (some (.ref f20))) (l20 : K.lookup f20 = some ⟨oc20, od20, .func (PySem.W.fnOf "mark_behind" "mark_behind" (defArgs s_mark_behind) (defBody s_mark_behind) (defScope s_mark_behind) .none kV20 dc20 pm20 an20 cd20 ct20), sl20⟩) (c20 : PySem.W.codeIn K cd20 "mark_behind" = true) (k20 : PySem.W.keepIn K (.ref f20) = true)
    {f21 : Addr} {od21 an21 : Option Addr} {sl21 : Array (Option Value)} {oc21 kV21 dc21 pm21 cd21 ct21 : Value}
    (a21 : PySem.W.nsIn K mainGlobals "way_of" = some (some (.ref f21))) (l21 : K.lookup f21 = some ⟨oc21, od21, .func (PySem.W.fnOf "way_of" "way_of" (defArgs s_way_of) (defBody s_way_of) (defScope s_way_of) .none kV21 dc21 pm21 an21 cd21 ct21), sl21⟩) (c21 : PySem.W.codeIn K cd21 "way_of" = true) (k21 : PySem.W.keepIn K (.ref f21) = true)
    {f22 : Addr} {od22 an22 : Option Addr} {sl22 : Array (Option Value)} {oc22 kV22 dc22 pm22 cd22 ct22 : Value}
    (a22 : PySem.W.nsIn K mainGlobals "round_of" = some (some (.ref f22))) (l22 : K.lookup f22 = some ⟨oc22, od22, .func (PySem.W.fnOf "round_of" "round_of" (defArgs s_round_of) (defBody s_round_of) (defScope s_round_of) .none kV22 dc22 pm22 an22 cd22 ct22), sl22⟩) (c22 : PySem.W.codeIn K cd22 "round_of" = true) (k22 : PySem.W.keepIn K (.ref f22) = true)
    {f23 : Addr} {od23 an23 : Option Addr} {sl23 : Array (Option Value)} {oc23 kV23 dc23 pm23 cd23 ct23 : Value}
    (a23 : PySem.W.nsIn K mainGlobals "mark_at" = some (some (.ref f23))) (l23 : K.lookup f23 = some ⟨oc23, od23, .func (PySem.W.fnOf "mark_at" "mark_at" (defArgs s_mark_at) (defBody s_mark_at) (defScope s_mark_at) .none kV23 dc23 pm23 an23 cd23 ct23), sl23⟩) (c23 : PySem.W.codeIn K cd23 "mark_at" = true) (k23 : PySem.W.keepIn K (.ref f23) = true)
    {f24 : Addr} {od24 an24 : Option Addr} {sl24 : Array (Option Value)} {oc24 kV24 dc24 pm24 cd24 ct24 : Value}
    (a24 : PySem.W.nsIn K mainGlobals "state_behind" = some (some (.ref f24))) (l24 : K.lookup f24 = some ⟨oc24, od24, .func (PySem.W.fnOf "state_behind" "state_behind" (defArgs s_state_behind) (defBody s_state_behind) (defScope s_state_behind) .none kV24 dc24 pm24 an24 cd24 ct24), sl24⟩) (c24 : PySem.W.codeIn K cd24 "state_behind" = true) (k24 : PySem.W.keepIn K (.ref f24) = true)
    {f25 : Addr} {od25 an25 : Option Addr} {sl25 : Array (Option Value)} {oc25 kV25 dc25 pm25 cd25 ct25 : Value}
    (a25 : PySem.W.nsIn K mainGlobals "told_loss" = some (some (.ref f25))) (l25 : K.lookup f25 = some ⟨oc25, od25, .func (PySem.W.fnOf "told_loss" "told_loss" (defArgs s_told_loss) (defBody s_told_loss) (defScope s_told_loss) .none kV25 dc25 pm25 an25 cd25 ct25), sl25⟩) (c25 : PySem.W.codeIn K cd25 "told_loss" = true) (k25 : PySem.W.keepIn K (.ref f25) = true)
    {f26 : Addr} {od26 an26 : Option Addr} {sl26 : Array (Option Value)} {oc26 kV26 dc26 pm26 cd26 ct26 : Value}
    (a26 : PySem.W.nsIn K mainGlobals "next_loss" = some (some (.ref f26))) (l26 : K.lookup f26 = some ⟨oc26, od26, .func (PySem.W.fnOf "next_loss" "next_loss" (defArgs s_next_loss) (defBody s_next_loss) (defScope s_next_loss) .none kV26 dc26 pm26 an26 cd26 ct26), sl26⟩) (c26 : PySem.W.codeIn K cd26 "next_loss" = true) (k26 : PySem.W.keepIn K (.ref f26) = true)
    {f27 : Addr} {od27 an27 : Option Addr} {sl27 : Array (Option Value)} {oc27 kV27 dc27 pm27 cd27 ct27 : Value}
    (a27 : PySem.W.nsIn K mainGlobals "losses" = some (some (.ref f27))) (l27 : K.lookup f27 = some ⟨oc27, od27, .func (PySem.W.fnOf "losses" "losses" (defArgs s_losses) (defBody s_losses) (defScope s_losses) .none kV27 dc27 pm27 an27 cd27 ct27), sl27⟩) (c27 : PySem.W.codeIn K cd27 "losses" = true) (k27 : PySem.W.keepIn K (.ref f27) = true)
    {f28 : Addr} {od28 an28 : Option Addr} {sl28 : Array (Option Value)} {oc28 kV28 dc28 pm28 cd28 ct28 : Value}
    (a28 : PySem.W.nsIn K mainGlobals "paper" = some (some (.ref f28))) (l28 : K.lookup f28 = some ⟨oc28, od28, .func (PySem.W.fnOf "paper" "paper" (defArgs s_paper) (defBody s_paper) (defScope s_paper) .none kV28 dc28 pm28 an28 cd28 ct28), sl28⟩) (c28 : PySem.W.codeIn K cd28 "paper" = true) (k28 : PySem.W.keepIn K (.ref f28) = true)
    {f29 : Addr} {od29 an29 : Option Addr} {sl29 : Array (Option Value)} {oc29 kV29 dc29 pm29 cd29 ct29 : Value}
    (a29 : PySem.W.nsIn K mainGlobals "shows_sparing" = some (some (.ref f29))) (l29 : K.lookup f29 = some ⟨oc29, od29, .func (PySem.W.fnOf "shows_sparing" "shows_sparing" (defArgs s_shows_sparing) (defBody s_shows_sparing) (defScope s_shows_sparing) .none kV29 dc29 pm29 an29 cd29 ct29), sl29⟩) (c29 : PySem.W.codeIn K cd29 "shows_sparing" = true) (k29 : PySem.W.keepIn K (.ref f29) = true)
    {f30 : Addr} {od30 an30 : Option Addr} {sl30 : Array (Option Value)} {oc30 kV30 dc30 pm30 cd30 ct30 : Value}
    (a30 : PySem.W.nsIn K mainGlobals "is_row" = some (some (.ref f30))) (l30 : K.lookup f30 = some ⟨oc30, od30, .func (PySem.W.fnOf "is_row" "is_row" (defArgs s_is_row) (defBody s_is_row) (defScope s_is_row) .none kV30 dc30 pm30 an30 cd30 ct30), sl30⟩) (c30 : PySem.W.codeIn K cd30 "is_row" = true) (k30 : PySem.W.keepIn K (.ref f30) = true)
    {f31 : Addr} {od31 an31 : Option Addr} {sl31 : Array (Option Value)} {oc31 kV31 dc31 pm31 cd31 ct31 : Value}
    (a31 : PySem.W.nsIn K mainGlobals "shows_spilling" = some (some (.ref f31))) (l31 : K.lookup f31 = some ⟨oc31, od31, .func (PySem.W.fnOf "shows_spilling" "shows_spilling" (defArgs s_shows_spilling) (defBody s_shows_spilling) (defScope s_shows_spilling) .none kV31 dc31 pm31 an31 cd31 ct31), sl31⟩) (c31 : PySem.W.codeIn K cd31 "shows_spilling" = true) (k31 : PySem.W.keepIn K (.ref f31) = true)
    {f32 : Addr} {od32 an32 : Option Addr} {sl32 : Array (Option Value)} {oc32 kV32 dc32 pm32 cd32 ct32 : Value}
    (a32 : PySem.W.nsIn K mainGlobals "shows_paper" = some (some (.ref f32))) (l32 : K.lookup f32 = some ⟨oc32, od32, .func (PySem.W.fnOf "shows_paper" "shows_paper" (defArgs s_shows_paper) (defBody s_shows_paper) (defScope s_shows_paper) .none kV32 dc32 pm32 an32 cd32 ct32), sl32⟩) (c32 : PySem.W.codeIn K cd32 "shows_paper" = true) (k32 : PySem.W.keepIn K (.ref f32) = true)
    {f33 : Addr} {od33 an33 : Option Addr} {sl33 : Array (Option Value)} {oc33 kV33 dc33 pm33 cd33 ct33 : Value}
    (a33 : PySem.W.nsIn K mainGlobals "_law_box" = some (some (.ref f33))) (l33 : K.lookup f33 = some ⟨oc33, od33, .func (PySem.W.fnOf "_law_box" "_law_box" (defArgs s__law_box) (defBody s__law_box) (defScope s__law_box) .none kV33 dc33 pm33 an33 cd33 ct33), sl33⟩) (c33 : PySem.W.codeIn K cd33 "_law_box" = true) (k33 : PySem.W.keepIn K (.ref f33) = true)
    {f34 : Addr} {od34 an34 : Option Addr} {sl34 : Array (Option Value)} {oc34 kV34 dc34 pm34 cd34 ct34 : Value}
    (a34 : PySem.W.nsIn K mainGlobals "_law_take" = some (some (.ref f34))) (l34 : K.lookup f34 = some ⟨oc34, od34, .func (PySem.W.fnOf "_law_take" "_law_take" (defArgs s__law_take) (defBody s__law_take) (defScope s__law_take) .none kV34 dc34 pm34 an34 cd34 ct34), sl34⟩) (c34 : PySem.W.codeIn K cd34 "_law_take" = true) (k34 : PySem.W.keepIn K (.ref f34) = true)
    {f35 : Addr} {od35 an35 : Option Addr} {sl35 : Array (Option Value)} {oc35 kV35 dc35 pm35 cd35 ct35 : Value}
    (a35 : PySem.W.nsIn K mainGlobals "_law_folded" = some (some (.ref f35))) (l35 : K.lookup f35 = some ⟨oc35, od35, .func (PySem.W.fnOf "_law_folded" "_law_folded" (defArgs s__law_folded) (defBody s__law_folded) (defScope s__law_folded) .none kV35 dc35 pm35 an35 cd35 ct35), sl35⟩) (c35 : PySem.W.codeIn K cd35 "_law_folded" = true) (k35 : PySem.W.keepIn K (.ref f35) = true)
    {f36 : Addr} {od36 an36 : Option Addr} {sl36 : Array (Option Value)} {oc36 kV36 dc36 pm36 cd36 ct36 : Value}
    (a36 : PySem.W.nsIn K mainGlobals "_law_of" = some (some (.ref f36))) (l36 : K.lookup f36 = some ⟨oc36, od36, .func (PySem.W.fnOf "_law_of" "_law_of" (defArgs s__law_of) (defBody s__law_of) (defScope s__law_of) .none kV36 dc36 pm36 an36 cd36 ct36), sl36⟩) (c36 : PySem.W.codeIn K cd36 "_law_of" = true) (k36 : PySem.W.keepIn K (.ref f36) = true)
    {f37 : Addr} {od37 an37 : Option Addr} {sl37 : Array (Option Value)} {oc37 kV37 dc37 pm37 cd37 ct37 : Value}
    (a37 : PySem.W.nsIn K mainGlobals "_law_whole" = some (some (.ref f37))) (l37 : K.lookup f37 = some ⟨oc37, od37, .func (PySem.W.fnOf "_law_whole" "_law_whole" (defArgs s__law_whole) (defBody s__law_whole) (defScope s__law_whole) .none kV37 dc37 pm37 an37 cd37 ct37), sl37⟩) (c37 : PySem.W.codeIn K cd37 "_law_whole" = true) (k37 : PySem.W.keepIn K (.ref f37) = true)
    {f38 : Addr} {od38 an38 : Option Addr} {sl38 : Array (Option Value)} {oc38 kV38 dc38 pm38 cd38 ct38 : Value}
    (a38 : PySem.W.nsIn K mainGlobals "_law_nest" = some (some (.ref f38))) (l38 : K.lookup f38 = some ⟨oc38, od38, .func (PySem.W.fnOf "_law_nest" "_law_nest" (defArgs s__law_nest) (defBody s__law_nest) (defScope s__law_nest) .none kV38 dc38 pm38 an38 cd38 ct38), sl38⟩) (c38 : PySem.W.codeIn K cd38 "_law_nest" = true) (k38 : PySem.W.keepIn K (.ref f38) = true)
    {f39 : Addr} {od39 an39 : Option Addr} {sl39 : Array (Option Value)} {oc39 kV39 dc39 pm39 cd39 ct39 : Value}
    (a39 : PySem.W.nsIn K mainGlobals "_law_wide" = some (some (.ref f39))) (l39 : K.lookup f39 = some ⟨oc39, od39, .func (PySem.W.fnOf "_law_wide" "_law_wide" (defArgs s__law_wide) (defBody s__law_wide) (defScope s__law_wide) .none kV39 dc39 pm39 an39 cd39 ct39), sl39⟩) (c39 : PySem.W.codeIn K cd39 "_law_wide" = true) (k39 : PySem.W.keepIn K (.ref f39) = true)
    {f40 : Addr} {od40 an40 : Option Addr} {sl40 : Array (Option Value)} {oc40 kV40 dc40 pm40 cd40 ct40 : Value}
    (a40 : PySem.W.nsIn K mainGlobals "_law_now" = some (some (.ref f40))) (l40 : K.lookup f40 = some ⟨oc40, od40, .func (PySem.W.fnOf "_law_now" "_law_now" (defArgs s__law_now) (defBody s__law_now) (defScope s__law_now) .none kV40 dc40 pm40 an40 cd40 ct40), sl40⟩) (c40 : PySem.W.codeIn K cd40 "_law_now" = true) (k40 : PySem.W.keepIn K (.ref f40) = true)
    {f41 : Addr} {od41 an41 : Option Addr} {sl41 : Array (Option Value)} {oc41 kV41 dc41 pm41 cd41 ct41 : Value}
    (a41 : PySem.W.nsIn K mainGlobals "_law_given" = some (some (.ref f41))) (l41 : K.lookup f41 = some ⟨oc41, od41, .func (PySem.W.fnOf "_law_given" "_law_given" (defArgs s__law_given) (defBody s__law_given) (defScope s__law_given) .none kV41 dc41 pm41 an41 cd41 ct41), sl41⟩) (c41 : PySem.W.codeIn K cd41 "_law_given" = true) (k41 : PySem.W.keepIn K (.ref f41) = true)
    {f42 : Addr} {od42 an42 : Option Addr} {sl42 : Array (Option Value)} {oc42 kV42 dc42 pm42 cd42 ct42 : Value}
    (a42 : PySem.W.nsIn K mainGlobals "_law_common_nest" = some (some (.ref f42))) (l42 : K.lookup f42 = some ⟨oc42, od42, .func (PySem.W.fnOf "_law_common_nest" "_law_common_nest" (defArgs s__law_common_nest) (defBody s__law_common_nest) (defScope s__law_common_nest) .none kV42 dc42 pm42 an42 cd42 ct42), sl42⟩) (c42 : PySem.W.codeIn K cd42 "_law_common_nest" = true) (k42 : PySem.W.keepIn K (.ref f42) = true)
    {f43 : Addr} {od43 an43 : Option Addr} {sl43 : Array (Option Value)} {oc43 kV43 dc43 pm43 cd43 ct43 : Value}
    (a43 : PySem.W.nsIn K mainGlobals "_law_of_class" = some (some (.ref f43))) (l43 : K.lookup f43 = some ⟨oc43, od43, .func (PySem.W.fnOf "_law_of_class" "_law_of_class" (defArgs s__law_of_class) (defBody s__law_of_class) (defScope s__law_of_class) .none kV43 dc43 pm43 an43 cd43 ct43), sl43⟩) (c43 : PySem.W.codeIn K cd43 "_law_of_class" = true) (k43 : PySem.W.keepIn K (.ref f43) = true)
    {f44 : Addr} {od44 an44 : Option Addr} {sl44 : Array (Option Value)} {oc44 kV44 dc44 pm44 cd44 ct44 : Value}
    (a44 : PySem.W.nsIn K mainGlobals "_law_sparing_right" = some (some (.ref f44))) (l44 : K.lookup f44 = some ⟨oc44, od44, .func (PySem.W.fnOf "_law_sparing_right" "_law_sparing_right" (defArgs s__law_sparing_right) (defBody s__law_sparing_right) (defScope s__law_sparing_right) .none kV44 dc44 pm44 an44 cd44 ct44), sl44⟩) (c44 : PySem.W.codeIn K cd44 "_law_sparing_right" = true) (k44 : PySem.W.keepIn K (.ref f44) = true)
    {f45 : Addr} {od45 an45 : Option Addr} {sl45 : Array (Option Value)} {oc45 kV45 dc45 pm45 cd45 ct45 : Value}
    (a45 : PySem.W.nsIn K mainGlobals "_law_right" = some (some (.ref f45))) (l45 : K.lookup f45 = some ⟨oc45, od45, .func (PySem.W.fnOf "_law_right" "_law_right" (defArgs s__law_right) (defBody s__law_right) (defScope s__law_right) .none kV45 dc45 pm45 an45 cd45 ct45), sl45⟩) (c45 : PySem.W.codeIn K cd45 "_law_right" = true) (k45 : PySem.W.keepIn K (.ref f45) = true)
    {f46 : Addr} {od46 an46 : Option Addr} {sl46 : Array (Option Value)} {oc46 kV46 dc46 pm46 cd46 ct46 : Value}
    (a46 : PySem.W.nsIn K mainGlobals "law" = some (some (.ref f46))) (l46 : K.lookup f46 = some ⟨oc46, od46, .func (PySem.W.fnOf "law" "law" (defArgs s_law) (defBody s_law) (defScope s_law) .none kV46 dc46 pm46 an46 cd46 ct46), sl46⟩) (c46 : PySem.W.codeIn K cd46 "law" = true) (k46 : PySem.W.keepIn K (.ref f46) = true)
    (z0 : PySem.W.nsIn K mainGlobals "len" = some none)
    (z1 : PySem.W.nsIn K mainGlobals "abs" = some none)
    (z2 : PySem.W.nsIn K mainGlobals "divmod" = some none)
    (z3 : PySem.W.nsIn K mainGlobals "sum" = some none)
    (z4 : PySem.W.nsIn K mainGlobals "all" = some none)
    (z5 : PySem.W.nsIn K mainGlobals "any" = some none)
    (z6 : PySem.W.nsIn K mainGlobals "int" = some none)
    (z7 : PySem.W.nsIn K mainGlobals "bool" = some none)
    (z8 : PySem.W.nsIn K mainGlobals "list" = some none)
    (z9 : PySem.W.nsIn K mainGlobals "tuple" = some none)
    (z10 : PySem.W.nsIn K mainGlobals "max" = some none)
    (z11 : PySem.W.nsIn K mainGlobals "min" = some none)
    (z12 : PySem.W.nsIn K mainGlobals "isinstance" = some none)
    (z13 : PySem.W.nsIn K mainGlobals "range" = some none)
    (z14 : PySem.W.nsIn K mainGlobals "enumerate" = some none)
    (z15 : PySem.W.nsIn K mainGlobals "zip" = some none)
    (z16 : PySem.W.nsIn K mainGlobals "reversed" = some none)
    (z17 : PySem.W.nsIn K mainGlobals "set" = some none)
    (z18 : PySem.W.nsIn K mainGlobals "sorted" = some none)
    (gg : PySem.W.nsIn K mainGlobals "gcd" = some (some (.builtin "math.gcd")))
    : ∃ fd : FuncData, (∀ (s : Shared) (v : Value), BindsTo s fd ⟨[v], []⟩ [("_law_script", v)]) ∧ ∀ base : Heap, K.In base → base.Ns mainGlobals mg → FnOk l.prog w K mg base CX0 lawLevel fa fd ["_law_script"] (spLaw K) := by
  have e := hfa.symm.trans (PySem.W.mg_of X G a46)
  cases e
  let T : Txt K mg := {
    a_is_number := f0, d_is_number := _, F_is_number := fun_mk (st := s_is_number) l0 c0 k0, m_is_number := PySem.W.mg_of X G a0,
    a_is_tuple_of := f1, d_is_tuple_of := _, F_is_tuple_of := fun_mk (st := s_is_tuple_of) l1 c1 k1, m_is_tuple_of := PySem.W.mg_of X G a1,
    a_year_drops := f2, d_year_drops := _, F_year_drops := fun_mk (st := s_year_drops) l2 c2 k2, m_year_drops := PySem.W.mg_of X G a2,
    a_ring_needs := f3, d_ring_needs := _, F_ring_needs := fun_mk (st := s_ring_needs) l3 c3 k3, m_ring_needs := PySem.W.mg_of X G a3,
    a_given_by := f4, d_given_by := _, F_given_by := fun_mk (st := s_given_by) l4 c4 k4, m_given_by := PySem.W.mg_of X G a4,
    a_open_from := f5, d_open_from := _, F_open_from := fun_mk (st := s_open_from) l5 c5 k5, m_open_from := PySem.W.mg_of X G a5,
    a_day_of := f6, d_day_of := _, F_day_of := fun_mk (st := s_day_of) l6 c6 k6, m_day_of := PySem.W.mg_of X G a6,
    a_line_of := f7, d_line_of := _, F_line_of := fun_mk (st := s_line_of) l7 c7 k7, m_line_of := PySem.W.mg_of X G a7,
    a_given_next := f8, d_given_next := _, F_given_next := fun_mk (st := s_given_next) l8 c8 k8, m_given_next := PySem.W.mg_of X G a8,
    a_stretches := f9, d_stretches := _, F_stretches := fun_mk (st := s_stretches) l9 c9 k9, m_stretches := PySem.W.mg_of X G a9,
    a_lost_at := f10, d_lost_at := _, F_lost_at := fun_mk (st := s_lost_at) l10 c10 k10, m_lost_at := PySem.W.mg_of X G a10,
    a_needed := f11, d_needed := _, F_needed := fun_mk (st := s_needed) l11 c11 k11, m_needed := PySem.W.mg_of X G a11,
    a_common := f12, d_common := _, F_common := fun_mk (st := s_common) l12 c12 k12, m_common := PySem.W.mg_of X G a12,
    a_unmet := f13, d_unmet := _, F_unmet := fun_mk (st := s_unmet) l13 c13 k13, m_unmet := PySem.W.mg_of X G a13,
    a_sparing := f14, d_sparing := _, F_sparing := fun_mk (st := s_sparing) l14 c14 k14, m_sparing := PySem.W.mg_of X G a14,
    a_spares := f15, d_spares := _, F_spares := fun_mk (st := s_spares) l15 c15 k15, m_spares := PySem.W.mg_of X G a15,
    a_lost_in_all := f16, d_lost_in_all := _, F_lost_in_all := fun_mk (st := s_lost_in_all) l16 c16 k16, m_lost_in_all := PySem.W.mg_of X G a16,
    a_gone_back := f17, d_gone_back := _, F_gone_back := fun_mk (st := s_gone_back) l17 c17 k17, m_gone_back := PySem.W.mg_of X G a17,
    a_least_steps := f18, d_least_steps := _, F_least_steps := fun_mk (st := s_least_steps) l18 c18 k18, m_least_steps := PySem.W.mg_of X G a18,
    a_loss_turn := f19, d_loss_turn := _, F_loss_turn := fun_mk (st := s_loss_turn) l19 c19 k19, m_loss_turn := PySem.W.mg_of X G a19,
    a_mark_behind := f20, d_mark_behind := _, F_mark_behind := fun_mk (st := s_mark_behind) l20 c20 k20, m_mark_behind := PySem.W.mg_of X G a20,
    a_way_of := f21, d_way_of := _, F_way_of := fun_mk (st := s_way_of) l21 c21 k21, m_way_of := PySem.W.mg_of X G a21,
    a_round_of := f22, d_round_of := _, F_round_of := fun_mk (st := s_round_of) l22 c22 k22, m_round_of := PySem.W.mg_of X G a22,
    a_mark_at := f23, d_mark_at := _, F_mark_at := fun_mk (st := s_mark_at) l23 c23 k23, m_mark_at := PySem.W.mg_of X G a23,
    a_state_behind := f24, d_state_behind := _, F_state_behind := fun_mk (st := s_state_behind) l24 c24 k24, m_state_behind := PySem.W.mg_of X G a24,
    a_told_loss := f25, d_told_loss := _, F_told_loss := fun_mk (st := s_told_loss) l25 c25 k25, m_told_loss := PySem.W.mg_of X G a25,
    a_next_loss := f26, d_next_loss := _, F_next_loss := fun_mk (st := s_next_loss) l26 c26 k26, m_next_loss := PySem.W.mg_of X G a26,
    a_losses := f27, d_losses := _, F_losses := fun_mk (st := s_losses) l27 c27 k27, m_losses := PySem.W.mg_of X G a27,
    a_paper := f28, d_paper := _, F_paper := fun_mk (st := s_paper) l28 c28 k28, m_paper := PySem.W.mg_of X G a28,
    a_shows_sparing := f29, d_shows_sparing := _, F_shows_sparing := fun_mk (st := s_shows_sparing) l29 c29 k29, m_shows_sparing := PySem.W.mg_of X G a29,
    a_is_row := f30, d_is_row := _, F_is_row := fun_mk (st := s_is_row) l30 c30 k30, m_is_row := PySem.W.mg_of X G a30,
    a_shows_spilling := f31, d_shows_spilling := _, F_shows_spilling := fun_mk (st := s_shows_spilling) l31 c31 k31, m_shows_spilling := PySem.W.mg_of X G a31,
    a_shows_paper := f32, d_shows_paper := _, F_shows_paper := fun_mk (st := s_shows_paper) l32 c32 k32, m_shows_paper := PySem.W.mg_of X G a32,
    a__law_box := f33, d__law_box := _, F__law_box := fun_mk (st := s__law_box) l33 c33 k33, m__law_box := PySem.W.mg_of X G a33,
    a__law_take := f34, d__law_take := _, F__law_take := fun_mk (st := s__law_take) l34 c34 k34, m__law_take := PySem.W.mg_of X G a34,
    a__law_folded := f35, d__law_folded := _, F__law_folded := fun_mk (st := s__law_folded) l35 c35 k35, m__law_folded := PySem.W.mg_of X G a35,
    a__law_of := f36, d__law_of := _, F__law_of := fun_mk (st := s__law_of) l36 c36 k36, m__law_of := PySem.W.mg_of X G a36,
    a__law_whole := f37, d__law_whole := _, F__law_whole := fun_mk (st := s__law_whole) l37 c37 k37, m__law_whole := PySem.W.mg_of X G a37,
    a__law_nest := f38, d__law_nest := _, F__law_nest := fun_mk (st := s__law_nest) l38 c38 k38, m__law_nest := PySem.W.mg_of X G a38,
    a__law_wide := f39, d__law_wide := _, F__law_wide := fun_mk (st := s__law_wide) l39 c39 k39, m__law_wide := PySem.W.mg_of X G a39,
    a__law_now := f40, d__law_now := _, F__law_now := fun_mk (st := s__law_now) l40 c40 k40, m__law_now := PySem.W.mg_of X G a40,
    a__law_given := f41, d__law_given := _, F__law_given := fun_mk (st := s__law_given) l41 c41 k41, m__law_given := PySem.W.mg_of X G a41,
    a__law_common_nest := f42, d__law_common_nest := _, F__law_common_nest := fun_mk (st := s__law_common_nest) l42 c42 k42, m__law_common_nest := PySem.W.mg_of X G a42,
    a__law_of_class := f43, d__law_of_class := _, F__law_of_class := fun_mk (st := s__law_of_class) l43 c43 k43, m__law_of_class := PySem.W.mg_of X G a43,
    a__law_sparing_right := f44, d__law_sparing_right := _, F__law_sparing_right := fun_mk (st := s__law_sparing_right) l44 c44 k44, m__law_sparing_right := PySem.W.mg_of X G a44,
    a__law_right := f45, d__law_right := _, F__law_right := fun_mk (st := s__law_right) l45 c45 k45, m__law_right := PySem.W.mg_of X G a45,
    a_law := _, d_law := _, F_law := fun_mk (st := s_law) l46 c46 k46, m_law := PySem.W.mg_of X G a46,
    z_len := PySem.W.mg_none_of X G z0, z_abs := PySem.W.mg_none_of X G z1, z_divmod := PySem.W.mg_none_of X G z2, z_sum := PySem.W.mg_none_of X G z3, z_all := PySem.W.mg_none_of X G z4, z_any := PySem.W.mg_none_of X G z5, z_int := PySem.W.mg_none_of X G z6, z_bool := PySem.W.mg_none_of X G z7, z_list := PySem.W.mg_none_of X G z8, z_tuple := PySem.W.mg_none_of X G z9, z_max := PySem.W.mg_none_of X G z10, z_min := PySem.W.mg_none_of X G z11, z_isinstance := PySem.W.mg_none_of X G z12, z_range := PySem.W.mg_none_of X G z13, z_enumerate := PySem.W.mg_none_of X G z14, z_zip := PySem.W.mg_none_of X G z15, z_reversed := PySem.W.mg_none_of X G z16, z_set := PySem.W.mg_none_of X G z17, z_sorted := PySem.W.mg_none_of X G z18, m_gcd := PySem.W.mg_of X G gg }
  exact ⟨PySem.W.fnOf "law" "law" (defArgs s_law) (defBody s_law) (defScope s_law) .none kV46 dc46 pm46 an46 cd46 ct46, fun s v => .of_eq rfl, fun base _ _ => ok_law T⟩

end Z64
open PySem PySem.W PyProof.Rows
set_option maxHeartbeats 0 in
theorem PySem.Challenge.cw_honeyturns_k64_whole_spares_or_spills_holds : PySem.Challenge.rw_honeyturns_k64_whole_spares_or_spills.Holds := by
  w_on; o_law; k_head; (case hw => w_witness2)
  k_fill
  refine L2.walk_of (l := PySem.Challenge.rw_honeyturns_k64_whole_spares_or_spills) (n := 63) (k := Z64.lawLevel) (x := "_law_script") (CX := fun _ => L2.CX0) (sp := fun w => Z64.spLaw _) rfl (by decide) rfl ⟨rfl, by decide, by decide⟩ (fun w h Y => PySem.W.kIn_of Y) ?F (fun _ _ a ns hl _ hS => ⟨a, ns, rfl, hS, hl, fun _ => rfl⟩) (fun _ _ _ _ _ h => h)
  case F =>
    intro w mg fa h KX G hmg
    refine' Z64.all_mk KX G hmg ?a0 ?l0 ?c0 ?k0 ?a1 ?l1 ?c1 ?k1 ?a2 ?l2 ?c2 ?k2 ?a3 ?l3 ?c3 ?k3 ?a4 ?l4 ?c4 ?k4 ?a5 ?l5 ?c5 ?k5 ?a6 ?l6 ?c6 ?k6 ?a7 ?l7 ?c7 ?k7 ?a8 ?l8 ?c8 ?k8 ?a9 ?l9 ?c9 ?k9 ?a10 ?l10 ?c10 ?k10 ?a11 ?l11 ?c11 ?k11 ?a12 ?l12 ?c12 ?k12 ?a13 ?l13 ?c13 ?k13 ?a14 ?l14 ?c14 ?k14 ?a15 ?l15 ?c15 ?k15 ?a16 ?l16 ?c16 ?k16 ?a17 ?l17 ?c17 ?k17 ?a18 ?l18 ?c18 ?k18 ?a19 ?l19 ?c19 ?k19 ?a20 ?l20 ?c20 ?k20 ?a21 ?l21 ?c21 ?k21 ?a22 ?l22 ?c22 ?k22 ?a23 ?l23 ?c23 ?k23 ?a24 ?l24 ?c24 ?k24 ?a25 ?l25 ?c25 ?k25 ?a26 ?l26 ?c26 ?k26 ?a27 ?l27 ?c27 ?k27 ?a28 ?l28 ?c28 ?k28 ?a29 ?l29 ?c29 ?k29 ?a30 ?l30 ?c30 ?k30 ?a31 ?l31 ?c31 ?k31 ?a32 ?l32 ?c32 ?k32 ?a33 ?l33 ?c33 ?k33 ?a34 ?l34 ?c34 ?k34 ?a35 ?l35 ?c35 ?k35 ?a36 ?l36 ?c36 ?k36 ?a37 ?l37 ?c37 ?k37 ?a38 ?l38 ?c38 ?k38 ?a39 ?l39 ?c39 ?k39 ?a40 ?l40 ?c40 ?k40 ?a41 ?l41 ?c41 ?k41 ?a42 ?l42 ?c42 ?k42 ?a43 ?l43 ?c43 ?k43 ?a44 ?l44 ?c44 ?k44 ?a45 ?l45 ?c45 ?k45 ?a46 ?l46 ?c46 ?k46 ?z0 ?z1 ?z2 ?z3 ?z4 ?z5 ?z6 ?z7 ?z8 ?z9 ?z10 ?z11 ?z12 ?z13 ?z14 ?z15 ?z16 ?z17 ?z18 ?gg
    (case a0 => k_is); (case l0 => k_is); (case c0 => k_is); (case k0 => k_is); (case a1 => k_is); (case l1 => k_is); (case c1 => k_is); (case k1 => k_is); (case a2 => k_is); (case l2 => k_is); (case c2 => k_is); (case k2 => k_is); (case a3 => k_is); (case l3 => k_is); (case c3 => k_is); (case k3 => k_is); (case a4 => k_is); (case l4 => k_is); (case c4 => k_is); (case k4 => k_is); (case a5 => k_is); (case l5 => k_is); (case c5 => k_is); (case k5 => k_is); (case a6 => k_is); (case l6 => k_is); (case c6 => k_is); (case k6 => k_is); (case a7 => k_is); (case l7 => k_is); (case c7 => k_is); (case k7 => k_is); (case a8 => k_is); (case l8 => k_is); (case c8 => k_is); (case k8 => k_is); (case a9 => k_is); (case l9 => k_is); (case c9 => k_is); (case k9 => k_is); (case a10 => k_is); (case l10 => k_is); (case c10 => k_is); (case k10 => k_is); (case a11 => k_is); (case l11 => k_is); (case c11 => k_is); (case k11 => k_is); (case a12 => k_is); (case l12 => k_is); (case c12 => k_is); (case k12 => k_is); (case a13 => k_is); (case l13 => k_is); (case c13 => k_is); (case k13 => k_is); (case a14 => k_is); (case l14 => k_is); (case c14 => k_is); (case k14 => k_is); (case a15 => k_is); (case l15 => k_is); (case c15 => k_is); (case k15 => k_is); (case a16 => k_is); (case l16 => k_is); (case c16 => k_is); (case k16 => k_is); (case a17 => k_is); (case l17 => k_is); (case c17 => k_is); (case k17 => k_is); (case a18 => k_is); (case l18 => k_is); (case c18 => k_is); (case k18 => k_is); (case a19 => k_is); (case l19 => k_is); (case c19 => k_is); (case k19 => k_is); (case a20 => k_is); (case l20 => k_is); (case c20 => k_is); (case k20 => k_is); (case a21 => k_is); (case l21 => k_is); (case c21 => k_is); (case k21 => k_is); (case a22 => k_is); (case l22 => k_is); (case c22 => k_is); (case k22 => k_is); (case a23 => k_is); (case l23 => k_is); (case c23 => k_is); (case k23 => k_is); (case a24 => k_is); (case l24 => k_is); (case c24 => k_is); (case k24 => k_is); (case a25 => k_is); (case l25 => k_is); (case c25 => k_is); (case k25 => k_is); (case a26 => k_is); (case l26 => k_is); (case c26 => k_is); (case k26 => k_is); (case a27 => k_is); (case l27 => k_is); (case c27 => k_is); (case k27 => k_is); (case a28 => k_is); (case l28 => k_is); (case c28 => k_is); (case k28 => k_is); (case a29 => k_is); (case l29 => k_is); (case c29 => k_is); (case k29 => k_is); (case a30 => k_is); (case l30 => k_is); (case c30 => k_is); (case k30 => k_is); (case a31 => k_is); (case l31 => k_is); (case c31 => k_is); (case k31 => k_is); (case a32 => k_is); (case l32 => k_is); (case c32 => k_is); (case k32 => k_is); (case a33 => k_is); (case l33 => k_is); (case c33 => k_is); (case k33 => k_is); (case a34 => k_is); (case l34 => k_is); (case c34 => k_is); (case k34 => k_is); (case a35 => k_is); (case l35 => k_is); (case c35 => k_is); (case k35 => k_is); (case a36 => k_is); (case l36 => k_is); (case c36 => k_is); (case k36 => k_is); (case a37 => k_is); (case l37 => k_is); (case c37 => k_is); (case k37 => k_is); (case a38 => k_is); (case l38 => k_is); (case c38 => k_is); (case k38 => k_is); (case a39 => k_is); (case l39 => k_is); (case c39 => k_is); (case k39 => k_is); (case a40 => k_is); (case l40 => k_is); (case c40 => k_is); (case k40 => k_is); (case a41 => k_is); (case l41 => k_is); (case c41 => k_is); (case k41 => k_is); (case a42 => k_is); (case l42 => k_is); (case c42 => k_is); (case k42 => k_is); (case a43 => k_is); (case l43 => k_is); (case c43 => k_is); (case k43 => k_is); (case a44 => k_is); (case l44 => k_is); (case c44 => k_is); (case k44 => k_is); (case a45 => k_is); (case l45 => k_is); (case c45 => k_is); (case k45 => k_is); (case a46 => k_is); (case l46 => k_is); (case c46 => k_is); (case k46 => k_is); (case z0 => k_is); (case z1 => k_is); (case z2 => k_is); (case z3 => k_is); (case z4 => k_is); (case z5 => k_is); (case z6 => k_is); (case z7 => k_is); (case z8 => k_is); (case z9 => k_is); (case z10 => k_is); (case z11 => k_is); (case z12 => k_is); (case z13 => k_is); (case z14 => k_is); (case z15 => k_is); (case z16 => k_is); (case z17 => k_is); (case z18 => k_is); (case gg => k_is)

