import PyProof.Rows.All
import Wide.All
import OpenK.AllK
import Wide.FinOn
import HandS.ForMost
import HandS.IsInst
import HandS.WideBits
import HandS.Wide
import HandS.Zip
import HandS.Style
import HandS.TupAny
import KE.KTupSum
import PyProof.ReprRoads
import PyProof.LongRange
import HandS.NoneIn
import PyProof.Rows.IntBool
import PyProof.AutoIntG7
import HandS.More
import PySem.Challenge.RW_honeyturns_k01_hills_or_not
set_option Elab.async false
set_option linter.all false
set_option maxRecDepth 100000
set_option maxHeartbeats 2000000
namespace Hz
open PySem PySem.Spec PyProof.Rows L2

/-! ### rules that the layer lacks -/
section
variable {X : Cx} {CX : CXT} {k : Nat} {f : Addr} {fd : FuncData} {ps ks : List Str} {sp : Sp} {E : XK} {x : Str} {p pos : Pos} {kws : List Keyword} {tk : TA}
variable {g : List Value → List Value → List Value} {gV : List V → List V → List V}
/-- f(k = v, ..), all by names -/
theorem pe_callK0 (F : FnOk X.prog X.w X.K X.mg X.base CX k f fd ps sp) (hr : Room k X.A) (hg : Gl X x) (hm : X.mg x = some (.ref f)) (hk : PySem.W.keepIn X.K (.ref f) = true) (hb : KBinds X.K fd ps ks g gV) (hx : Passes CX X E)
    (hkw : PK X kws tk) (hall : (backToKw pos (keywordEach kws X.env)).all (·.1.isSome) = true := by rfl) (hks : (backToKw pos (keywordEach kws X.env)).filterMap (·.1) = ks := by rfl)
    (hdb : (x == ("__debug__" : Str)) = false := by decide)
    (hpl : ((backTo pos (starEach [] X.env)).any (·.1) || (backToKw pos (keywordEach kws X.env)).any (·.1.isNone)) = false := by rfl) :
    PE X (.Call (.Name x p) [] kws pos) (tCallK sp gV E tNil tk) := by
  refine ⟨fun pins s σ H Q I h => ?_⟩
  refine wpAny_Call_Name_kw (ld_glob I hg hm ?_ hdb)
  refine PySem.W.callWith_KW0 (h₀ := X.base) I.ok.mod.kin hk hall ?_ hpl
  refine thn (hkw.run pos pins s σ H _ I h) fun ws s2 ⟨zs, H2, I2, rz, q2⟩ => ⟨I2.kIn, ?_⟩
  rw [hks]
  exact run_fnk (us := []) (vs := []) F hr hb hx I2 .nil rz q2
end

/-! ### what may be walked: a list or a tuple -/
def Sq (K : PySem.W.Frag) (H : Hp) (a : Addr) (xs : List V) : Prop := SqL K H a xs ∨ SqT K H a xs
section
variable {X : Cx} {tg : Expr}
theorem pi_or {e : Expr} {w1 w2 : TI} (h1 : PI X tg e w1) (h2 : PI X tg e w2) : PI X tg e (fun σ H R => w1 σ H R ∨ w2 σ H R) :=
  ⟨fun pins s σ H R I h => h.elim (h1.run pins s σ H R I) (h2.run pins s σ H R I)⟩
theorem pi_seq {l : Expr} {tl : TE} (hl : PE X l tl) : PI X tg l (fun σ H R => iList X.K tl σ H R ∨ iTup X.K tl σ H R) := pi_or (pi_list hl) (pi_tup hl)
def rSlB (K : PySem.W.Frag) : V → Option Int → Option Int → Hp → VK → Prop := fun x lo hi H Q => rSlL K x lo hi H Q ∨ rSlA K x lo hi H Q
theorem sl_seq : SlR X (rSlB X.K) := sl_list.or sl_tupA
theorem ix_any : IxR X (rIx X.K) := ix_seq
theorem sum_tup {prog : Program} {w : World} {A : Around} {E : Value → Shared → Prop} {s : Shared} {t : Addr} {its : List Value} {ns : List Int} {Q : Value → Shared → Prop}
    (hh : A.handled = none) (hl : s.heap.IsTuple t its.toArray) (hi : IntsAre its ns)
    (h : ∀ h' tk t', (∀ b o, s.heap.get? b = some o → h'.get? b = some o) → Q (.int ns.sum t') { s with heap := h', toks := tk }) : wpAny (model prog w) A (call (.builtin "sum") [.ref t]) Q E s := by
  obtain ⟨xs, e⟩ := hi.allInts.items
  have hn : numsOf (intItems xs).toList = ns := by rw [← e]; exact hi.numsOf
  rw [nums_intItems] at hn
  rw [e] at hl
  refine PySem.W.ktm_sumG hh hl fun h' tk t' hk => ?_
  have := h h' tk t' hk
  rw [preSum_eq, List.take_of_length_le (by simp), hn]; exact this
def rSumA (K : PySem.W.Frag) : List V → Hp → VK → Prop := fun vs H Q => ∃ (a : Addr) (ns : List Int), vs = [V.ref a] ∧ Sq K H a (ns.map V.int) ∧ Q (.int ns.sum) H
theorem cr_sumA (hc : X.calm = true) : CallR X (.builtin "sum") (rSumA X.K) := by
  intro pins s σ H vs us Q I r h
  obtain ⟨a, ns, rfl, hs, q⟩ := h
  rcases hs with hs | hs
  · exact cr_sum hc pins s σ H [V.ref a] us Q I r ⟨a, ns, rfl, hs, q⟩
  · obtain ⟨its, rv, ht, _⟩ := I.tuple hs
    rw [Vals.ref1 r]
    exact sum_tup (I.ok.hd hc) ht rv.ints fun h' tk t' hk => ⟨.int _, H, I.kept hk, ⟨_, rfl⟩, q⟩
end
end Hz
namespace Hz
open PySem PySem.Spec PyProof.Rows L2

/-! ### heaps but for some addresses -/
def wo (B : List Addr) (H : Hp) : Hp := fun a => if a ∈ B then none else H a
/-- all that was tracked outside B is as it was; what was tracked is -/
def Ex (B : List Addr) (H H' : Hp) : Prop := (∀ a o, a ∉ B → H a = some o → H' a = some o) ∧ ∀ a, H' a = none → H a = none
theorem Ex.get {B : List Addr} {H H' : Hp} (e : Ex B H H') {a : Addr} {o : HO} (n : a ∉ B) (h : H a = some o) : H' a = some o := e.1 a o n h
theorem Ex.free {B : List Addr} {H H' : Hp} {p : Addr} (e : Ex B H H') (h : H' p = none) : H p = none := e.2 p h
theorem Ex.refl (B : List Addr) (H : Hp) : Ex B H H := ⟨fun _ _ _ h => h, fun _ h => h⟩
theorem Ex.trans {B : List Addr} {H H1 H2 : Hp} (a : Ex B H H1) (b : Ex B H1 H2) : Ex B H H2 := ⟨fun x o n h => b.1 x o n (a.1 x o n h), fun x h => a.2 x (b.2 x h)⟩
theorem upd_free {H : Hp} {p a : Addr} {o : HO} (h : upd H p o a = none) : H a = none := by
  by_cases z : a = p
  · subst z; rw [upd_same] at h; cases h
  · rw [upd_ne z] at h; exact h
theorem Ex.new {B : List Addr} {H : Hp} {p : Addr} {o : HO} (h : H p = none) : Ex B H (upd H p o) := ⟨fun a u _ e => by
  rw [upd_ne (ne_of_none e h)]
  exact e, fun _ => upd_free⟩
theorem Ex.mut {B : List Addr} {H : Hp} {p : Addr} {o : HO} (h : p ∈ B) : Ex B H (upd H p o) := ⟨fun a u n e => by
  rw [upd_ne (by intro z; subst z; exact n h)]
  exact e, fun _ => upd_free⟩
/-- a new object that changes afterwards -/
theorem Ex.mutNew {B : List Addr} {H H1 : Hp} {p : Addr} {o : HO} (h : H p = none) (e1 : Ex B H H1) : Ex B H (upd H1 p o) := ⟨fun a u n e => by
  rw [upd_ne (ne_of_none e h)]
  exact e1.1 a u n e, fun a q => e1.2 a (upd_free q)⟩
theorem Ex.mutNew' {B : List Addr} {H H1 : Hp} {p : Addr} {o : HO} (e1 : Ex B H H1) (h : H p = none) : Ex B H (upd H1 p o) := Ex.mutNew h e1
theorem Ex.sub {B C : List Addr} {H H' : Hp} (h : ∀ a, a ∈ B → a ∈ C) (e : Ex B H H') : Ex C H H' := ⟨fun a o n q => e.1 a o (fun z => n (h a z)) q, e.2⟩
/-- what is new at the start need not be kept -/
theorem Ex.drop {B : List Addr} {H H' : Hp} {p : Addr} (h : H p = none) (e : Ex (p :: B) H H') : Ex B H H' := ⟨fun a o n q =>
  e.1 a o (fun z => by
    rcases List.mem_cons.mp z with z | z
    · rw [z, h] at q; cases q
    · exact n z) q, e.2⟩
theorem Ex.nil {B : List Addr} {H H' : Hp} (e : Ex [] H H') : Ex B H H' := e.sub fun _ h => by cases h
theorem wo_some {B : List Addr} {H : Hp} {a : Addr} {o : HO} (h : wo B H a = some o) : a ∉ B ∧ H a = some o := by
  unfold wo at h
  by_cases z : a ∈ B
  · rw [if_pos z] at h; cases h
  · rw [if_neg z] at h; exact ⟨z, h⟩
theorem wo_of {B : List Addr} {H : Hp} {a : Addr} {o : HO} (n : a ∉ B) (h : H a = some o) : wo B H a = some o := by
  unfold wo
  rw [if_neg n]; exact h
theorem Ex.wo {B : List Addr} {H H' : Hp} (e : Ex B H H') : ∀ a o, Hz.wo B H a = some o → Hz.wo B H' a = some o := fun a o h => by
  obtain ⟨n, q⟩ := wo_some h
  exact wo_of n (e.1 a o n q)
theorem wo_nil (H : Hp) : wo [] H = H := by
  funext a
  unfold wo
  simp
/-- a read of a part is a read of the whole -/
def Le (H H' : Hp) : Prop := ∀ a o, H a = some o → H' a = some o
theorem wo_le (B : List Addr) (H : Hp) : Le (wo B H) H := fun _ _ h => (wo_some h).2
theorem wo_le2 {B C : List Addr} {H : Hp} (h : ∀ a, a ∈ B → a ∈ C) : Le (wo C H) (wo B H) := fun _ _ q => by
  obtain ⟨n, q⟩ := wo_some q
  exact wo_of (fun z => n (h _ z)) q
theorem Ex.le {B : List Addr} {H H' : Hp} (e : Ex B H H') : Le (Hz.wo B H) (Hz.wo B H') := e.wo
section
variable {K : PySem.W.Frag} {H H' : Hp} {a : Addr} {xs : List V}
theorem le_rd {u : HO} (e : Le H H') (h : Rd H a u) : Rd H' a u := by
  rcases h with h | ⟨o, h⟩
  · exact .inl (e _ _ h)
  · exact .inr ⟨o, e _ _ h⟩
theorem le_l (e : Le H H') (h : SqL K H a xs) : SqL K H' a xs := by
  rcases h with h | h
  · exact .inl (le_rd e h)
  · exact .inr h
theorem le_t (e : Le H H') (h : SqT K H a xs) : SqT K H' a xs := by
  rcases h with h | h
  · exact .inl (le_rd e h)
  · exact .inr h
theorem le_s (e : Le H H') (h : Sq K H a xs) : Sq K H' a xs := by
  rcases h with h | h
  · exact .inl (le_l e h)
  · exact .inr (le_t e h)
end
mutual
theorem dp_le {K : PySem.W.Frag} {H H' : Hp} (e : Le H H') : ∀ (d : PyData) (v : V), Dp K H v d → Dp K H' v d
  | .none, _, h => by cases h; exact .non
  | .bool b, _, h => by cases h; exact .bl b
  | .int i, _, h => by cases h; exact .int i
  | .str x, _, h => by cases h; exact .str x
  | .list ds, _, h => by cases h with | lst h1 h2 => exact .lst (le_l e h1) (dpa_le e ds _ h2)
  | .tuple ds, _, h => by cases h with | tup h1 h2 => exact .tup (le_t e h1) (dpa_le e ds _ h2)
  | .dict _, _, h => by cases h
theorem dpa_le {K : PySem.W.Frag} {H H' : Hp} (e : Le H H') : ∀ (ds : List PyData) (vs : List V), DpAll K H vs ds → DpAll K H' vs ds
  | [], _, h => by cases h; exact .nil
  | d :: ds, _, h => by cases h with | cons h1 h2 => exact .cons (dp_le e d _ h1) (dpa_le e ds _ h2)
end

/-! ### steps of a reading -/
section
variable {K : PySem.W.Frag} {H : Hp} {a : Addr} {xs : List V} {i : Int} {v : V} {Q : VK}
theorem z_ix (h : Sq K H a xs) (hv : atI xs i = some v) (q : Q v H) : rIx K (.ref a) (.int i) H Q := by
  rcases h with h | h
  · exact .inl ⟨a, xs, i, v, rfl, rfl, h, hv, q⟩
  · exact .inr (.inl ⟨a, xs, i, v, rfl, rfl, h, hv, q⟩)
theorem z_ixL (h : H a = some (.lst xs)) (hv : atI xs i = some v) (q : Q v H) : rIx K (.ref a) (.int i) H Q := z_ix (.inl (SqL.of h)) hv q
end

/-! ### the box of the laws: three numbers in a list, the third counts -/
def Bx (b : Addr) (n : Nat) (H : Hp) : Prop := ∃ x y c : Int, H b = some (.lst [.int x, .int y, .int c]) ∧ 0 ≤ x ∧ 0 ≤ y ∧ y < 2147483647 ∧ 0 ≤ c ∧ c ≤ n
theorem Bx.mono {b : Addr} {n m : Nat} {H : Hp} (h : Bx b n H) (l : n ≤ m) : Bx b m H := by
  obtain ⟨x, y, c, h1, h2, h3, h4, h5, h6⟩ := h
  exact ⟨x, y, c, h1, h2, h3, h4, h5, by omega⟩
theorem Bx.ex {B : List Addr} {b : Addr} {n : Nat} {H H' : Hp} (h : Bx b n H) (e : Ex B H H') (hb : b ∉ B) : Bx b n H' := by
  obtain ⟨x, y, c, h1, h2, h3, h4, h5, h6⟩ := h
  exact ⟨x, y, c, e.1 _ _ hb h1, h2, h3, h4, h5, h6⟩

/-! ### numbers -/
theorem log2_small {j : Int} (h0 : 0 < j) (h : j ≤ 10 ^ 60) : j.natAbs.log2 < 9000 := by
  have h1 : j.natAbs ≤ 10 ^ 60 := by omega
  have h2 : j.natAbs < 2 ^ 200 := Nat.lt_of_le_of_lt h1 (by decide)
  exact Nat.lt_of_lt_of_le (PySem.Flt.log2_lt_of (by decide) h2) (by decide)
theorem divp_of {i j : Int} (h0 : 0 < j) (h : j ≤ 10 ^ 60) : CDivP i j := ⟨h0, PyProof.noPylong_of_log2 (log2_small h0 h)⟩
theorem divw_of {i j : Int} (h0 : 0 < j) (h : j ≤ 10 ^ 60) : CDivW i j := ⟨h0, log2_small h0 h⟩
theorem sl2 : 2 ≤ sizeLine := by decide
theorem sz_of {n : Nat} (h : n ≤ 100000) : n ≤ sizeLine := Nat.le_trans h (by decide)
theorem sz_lt {n : Nat} (h : n < 100000) : n < sizeLine := Nat.lt_of_lt_of_le h (by decide)
theorem small2 {i : Int} (h0 : 0 ≤ i) (h : i < 2 ^ 64) : -(2 ^ 64) < i ∧ i < 2 ^ 64 := ⟨by omega, h⟩

/-- a tuple (t) or a list -/
def SqX (t : Bool) (K : PySem.W.Frag) (H : Hp) (a : Addr) (xs : List V) : Prop := if t = true then SqT K H a xs else SqL K H a xs
section
variable {t : Bool} {K : PySem.W.Frag} {H H' : Hp} {a : Addr} {xs : List V}
theorem SqX.sq (h : SqX t K H a xs) : Sq K H a xs := by
  cases t with
  | true => exact .inr h
  | false => exact .inl h
theorem le_x (e : Le H H') (h : SqX t K H a xs) : SqX t K H' a xs := by
  cases t with
  | true => exact le_t e (show SqT K H a xs from h)
  | false => exact le_l e (show SqL K H a xs from h)
end
/-! ### loops -/
section
variable {K : PySem.W.Frag} {a : Addr} {xs : List V} {g : TG} {tb : TS} {D : Ends} {σ : L2.St} {H : Hp} {B : List Addr} {tl : TE}
theorem for_enum (Pv : Nat → L2.St → Hp → Prop) (h0 : Pv 0 σ H) (hl : ∀ i σ H, i ≤ xs.length → Pv i σ H → SqL K H a xs)
    (hs : ∀ (i : Nat) (x : V) (T : Addr) (σ : L2.St) (H : Hp), xs[i]? = some x → Pv i σ H → H T = none → g (.ref T) σ (upd H T (.tup [.int (i : Nat), x])) fun σ2 H2 => tb { D with nx := Pv (i + 1), ct := Pv (i + 1), bk := D.nx } σ2 H2) (hd : ∀ σ H, Pv xs.length σ H → D.nx σ H) :
    ∃ W : Nat → Nat → L2.St → Hp → Prop, (∃ m, W 0 m σ H) ∧ ∀ i m σ H, W i m σ H →
      ((Ite K a).stop i H ∧ D.nx σ H) ∨ ((Ite K a).go i H ∧ ∃ N : L2.St → Hp → Prop, (∀ σ' H', N σ' H' → ∃ m', m' < m ∧ W (i + 1) m' σ' H') ∧ ∀ v H', (Ite K a).yld i H v H' → g v σ H' fun σ2 H2 => tb { D with nx := N, ct := N, bk := D.nx } σ2 H2) := by
  refine ⟨fun i m σ H => m = xs.length - i ∧ i ≤ xs.length ∧ Pv i σ H, ⟨xs.length, rfl, Nat.zero_le _, h0⟩, ?_⟩
  rintro i m σ H ⟨rfl, hi, p⟩
  have qx := hl i σ H hi p
  by_cases hlt : i < xs.length
  · have hx : xs[i]? = some xs[i] := List.getElem?_eq_getElem hlt
    refine .inr ⟨⟨xs, _, qx, hx⟩, Pv (i + 1), fun σ' H' p' => ⟨xs.length - (i + 1), by omega, rfl, hlt, p'⟩, fun v H' y => ?_⟩
    obtain ⟨T, x', rfl, hT, rfl, f1⟩ := y
    exact hs i x' T σ H (f1 xs qx) p hT
  · have e : i = xs.length := by omega
    subst e
    exact .inl ⟨⟨xs, qx, Nat.le_refl _⟩, hd σ H p⟩
/-- over a list or a tuple that stays as it is -/
theorem z_forS (hS : Sq K (wo B H) a xs) (htl : ∀ R : VK, R (.ref a) H → tl σ H R) (Pv : Nat → L2.St → Hp → Prop) (h0 : Pv 0 σ H) (hl : ∀ i σ' H', Pv i σ' H' → Ex B H H')
    (hs : ∀ (i : Nat) (x : V) (σ' : L2.St) (H' : Hp), xs[i]? = some x → Pv i σ' H' → g x σ' H' fun σ2 H2 => tb { D with nx := Pv (i + 1), ct := Pv (i + 1), bk := D.nx } σ2 H2) (hd : ∀ σ' H', Pv xs.length σ' H' → D.nx σ' H') :
    tFor (fun σ H R => iList K tl σ H R ∨ iTup K tl σ H R) g tb D σ H := by
  rcases hS with hS | hS
  · exact .inl (htl _ ⟨a, rfl, ⟨xs, le_l (wo_le B H) hS⟩, for_list Pv h0 (fun i σ' H' _ p => le_l (wo_le B H') (le_l (hl i σ' H' p).le hS)) hs hd⟩)
  · exact .inr (htl _ ⟨a, rfl, ⟨xs, le_t (wo_le B H) hS⟩, for_tup Pv h0 (fun i σ' H' _ p => le_t (wo_le B H') (le_t (hl i σ' H' p).le hS)) hs hd⟩)
end

/-! ### comprehensions: each item's value by R -/
theorem le_wo_cons {B C : List Addr} {D : Addr} {H H' : Hp} (hC : ∀ a, a ∈ C → a ∈ B) (hD : H D = none) (e : Ex C H H') : Le (wo B H) (wo (D :: B) H') := fun a o h => by
  obtain ⟨n, q⟩ := wo_some h
  refine wo_of (fun z => ?_) (e.1 a o (fun z => n (hC a z)) q)
  rcases List.mem_cons.mp z with z | z
  · rw [z, hD] at q; cases q
  · exact n z
section
variable {K : PySem.W.Frag} {g : TG} {te : TE} {vs : List Nat} {σ : L2.St} {H : Hp} {B C : List Addr}
/-- what a comprehension's loop keeps -/
def LcP (B C : List Addr) (H : Hp) (R : Nat → V → Hp → Prop) (J : Nat → Hp → Prop) (D : Addr) (i : Nat) (H' : Hp) : Prop :=
  Ex C H H' ∧ J i H' ∧ ∃ ys, H' D = some (.lst ys) ∧ ys.length = i ∧ ∀ j y, ys[j]? = some y → R j y (wo (D :: B) H')
/-- one turn's value goes onto the list -/
def LcT (B C : List Addr) (H : Hp) (R : Nat → V → Hp → Prop) (J : Nat → Hp → Prop) (g : TG) (te : TE) (vs : List Nat) (σ : L2.St) (i : Nat) (x : V) : Prop :=
  ∀ D H', H D = none → D ∉ B → Ex C H H' → J i H' → (H' D ≠ none) → ∀ N : VK, (∀ y H3, Ex C H' H3 → R i y (wo (D :: B) H3) → J (i + 1) H3 → N y H3) → g x (wipe σ vs) H' fun σ2 H2 => wipe σ2 vs = wipe σ vs ∧ te σ2 H2 N
structure LcOk (B C : List Addr) (H : Hp) (R : Nat → V → Hp → Prop) (J : Nat → Hp → Prop) (n : Nat) : Prop where
  hB : ∀ b, b ∈ B → H b ≠ none
  hC : ∀ a, a ∈ C → a ∈ B
  hR : ∀ i v G G', Le G G' → R i v G → R i v G'
  hJ : ∀ D i H' H'', H D = none → D ∉ B → Ex [D] H' H'' → J i H' → J i H''
  j0 : J 0 H
  hn : n < 100000
theorem lcOk0 {R : Nat → V → Prop} {n : Nat} (h : n < 100000) : LcOk [] [] H (fun i v _ => R i v) (fun _ _ => True) n := ⟨fun b hb => by simp at hb, fun _ h => h, fun _ _ _ _ _ h => h, fun _ _ _ _ _ _ _ _ => trivial, trivial, h⟩
theorem LcOk.nb {R : Nat → V → Hp → Prop} {J : Nat → Hp → Prop} {n : Nat} (O : LcOk B C H R J n) {D : Addr} (hD : H D = none) : D ∉ B := fun h => O.hB D h hD
theorem lcP_start {R : Nat → V → Hp → Prop} {J : Nat → Hp → Prop} {n : Nat} (O : LcOk B C H R J n) {D : Addr} (hD : H D = none) {H1 : Hp} (x1 : Ex [] H H1) : LcP B C H R J D 0 (upd H1 D (.lst [])) :=
  ⟨(Ex.nil x1).mutNew' hD, O.hJ D 0 H _ hD (O.nb hD) ((Ex.nil x1).trans (Ex.mut (List.mem_singleton.mpr rfl))) O.j0, [], upd_same, rfl, fun j y h => by simp at h⟩
theorem le_upd {B C : List Addr} (hC : ∀ a, a ∈ C → a ∈ B) {D : Addr} {H' H3 : Hp} {o : HO} (e : Ex C H' H3) : Le (wo (D :: B) H') (wo (D :: B) (upd H3 D o)) := fun a u h => by
  obtain ⟨n, q⟩ := wo_some h
  have na : a ≠ D := fun z => n (by rw [z]; exact List.mem_cons_self ..)
  have nb : a ∉ B := fun z => n (List.mem_cons_of_mem _ z)
  refine wo_of n ?_
  rw [upd_ne na]
  exact e.1 a u (fun z => nb (hC a z)) q
theorem lcP_turn {R : Nat → V → Hp → Prop} {J : Nat → Hp → Prop} {n : Nat} (O : LcOk B C H R J n) {D : Addr} (hD : H D = none) {i : Nat} (hi : i < n) {H' H3 : Hp} {y : V} (p : LcP B C H R J D i H') (e : Ex C H' H3) (r : R i y (wo (D :: B) H3)) (j : J (i + 1) H3) :
    ∃ acc, H3 D = some (.lst acc) ∧ acc.length < sizeLine ∧ LcP B C H R J D (i + 1) (upd H3 D (.lst (acc ++ [y]))) := by
  obtain ⟨x1, _, ys, d1, l1, r1⟩ := p
  have nb := O.nb hD
  refine ⟨ys, e.1 D _ (fun z => nb (O.hC D z)) d1, sz_lt (by have := O.hn; omega), (x1.trans e).mutNew' hD, O.hJ D _ _ _ hD nb (Ex.mut (List.mem_singleton.mpr rfl)) j, ys ++ [y], upd_same, by simp [l1], fun k z hk => ?_⟩
  by_cases c : k < ys.length
  · rw [List.getElem?_append_left c] at hk
    exact O.hR k z _ _ (le_upd O.hC e) (r1 k z hk)
  · have ek : k = i := by
      have : k < (ys ++ [y]).length := by
        obtain ⟨h, _⟩ := List.getElem?_eq_some_iff.mp hk
        exact h
      rw [List.length_append, List.length_singleton] at this
      omega
    subst ek
    rw [List.getElem?_append_right (by omega), l1, Nat.sub_self] at hk
    have ez : y = z := Option.some.inj hk
    subst ez
    exact O.hR k y _ _ (le_upd O.hC (Ex.refl _ _)) r
theorem lcP_end {R : Nat → V → Hp → Prop} {J : Nat → Hp → Prop} {n : Nat} (O : LcOk B C H R J n) {D : Addr} {H' : Hp} (p : LcP B C H R J D n H') :
    ∃ ys, H' D = some (.lst ys) ∧ ys.length = n ∧ (∀ j y, ys[j]? = some y → R j y (wo B H')) ∧ Ex C H H' ∧ J n H' := by
  obtain ⟨x1, j1, ys, d1, l1, r1⟩ := p
  exact ⟨ys, d1, l1, fun j y h => O.hR j y _ _ (wo_le2 fun a h => List.mem_cons_of_mem _ h) (r1 j y h), x1, j1⟩
theorem lcP_there {R : Nat → V → Hp → Prop} {J : Nat → Hp → Prop} {D : Addr} {i : Nat} {H' : Hp} (p : LcP B C H R J D i H') : H' D ≠ none := by
  obtain ⟨_, _, ys, d1, _⟩ := p
  rw [d1]
  exact fun z => by cases z
/-- what a comprehension over n items asks, the source standing -/
structure LcAll (B C : List Addr) (H : Hp) (R : Nat → V → Hp → Prop) (J : Nat → Hp → Prop) (g : TG) (te : TE) (vs : List Nat) (σ : L2.St) (n : Nat) (item : Nat → V → Prop) (Q : VK) : Prop where
  ok : LcOk B C H R J n
  turn : ∀ i x, i < n → item i x → LcT B C H R J g te vs σ i x
  fin : ∀ D ys H', H D = none → H' D = some (.lst ys) → ys.length = n → (∀ j y, ys[j]? = some y → R j y (wo B H')) → Ex C H H' → J n H' → Q (.ref D) H'
section
variable {R : Nat → V → Hp → Prop} {J : Nat → Hp → Prop} {n : Nat} {item : Nat → V → Prop} {Q : VK}
theorem LcAll.end_ (CC : LcAll B C H R J g te vs σ n item Q) {D : Addr} (hD : H D = none) {H' : Hp} (p : LcP B C H R J D n H') : Q (.ref D) H' := by
  obtain ⟨ys, d1, l1, r1, x1, j1⟩ := lcP_end CC.ok p
  exact CC.fin D ys H' hD d1 l1 r1 x1 j1
theorem LcAll.step (CC : LcAll B C H R J g te vs σ n item Q) {D : Addr} (hD : H D = none) {i : Nat} {x : V} {H' : Hp} (hi : i < n) (hx : item i x) (p : LcP B C H R J D i H') : g x (wipe σ vs) H' fun σ2 H2 => wipe σ2 vs = wipe σ vs ∧ tYes σ2 H2 fun b H3 =>
      if b = true then te σ2 H3 fun y H4 => ∃ acc, H4 D = some (.lst acc) ∧ acc.length < sizeLine ∧ LcP B C H R J D (i + 1) (upd H4 D (.lst (acc ++ [y]))) else LcP B C H R J D (i + 1) H3 := by
  have h1 := CC.turn i x hi hx D H' hD (CC.ok.nb hD) p.1 p.2.1 (lcP_there p) _ (fun y H3 e r j => lcP_turn CC.ok hD hi p e r j)
  simpa only [tYes, if_true, eq_self] using h1
end
theorem z_lcS {t : Bool} {xs : List V} {tl : TE} {Q : VK} (htl : ∀ R : VK, (∀ a H1, Ex [] H H1 → SqX t K (wo B H1) a xs → R (.ref a) H1) → tl σ H R) (R : Nat → V → Hp → Prop) (J : Nat → Hp → Prop)
    (k : ∀ H1, Ex [] H H1 → LcAll B C H1 R J g te vs σ xs.length (fun i x => xs[i]? = some x) Q) : tLc (fun σ H R => iList K tl σ H R ∨ iTup K tl σ H R) g tYes te vs σ H Q := by
  have lt : ∀ {i : Nat} {x : V}, xs[i]? = some x → i < xs.length := fun h => by
    obtain ⟨h, _⟩ := List.getElem?_eq_some_iff.mp h
    exact h
  cases t with
  | false => exact .inl (htl _ fun a H1 x1 hS => ⟨a, rfl, ⟨xs, le_l (wo_le B H1) hS⟩, fun D hD => lc_list (LcP B C H1 R J D) (lcP_start (k H1 x1).ok hD (Ex.refl _ _)) (fun i H' _ p => le_l (wo_le B H') (le_l (p.1.sub (k H1 x1).ok.hC).le hS)) (fun i x H' hx p => (k H1 x1).step hD (lt hx) hx p) (fun H' p => (k H1 x1).end_ hD p)⟩)
  | true => exact .inr (htl _ fun a H1 x1 hS => ⟨a, rfl, ⟨xs, le_t (wo_le B H1) hS⟩, fun D hD => lc_tup (LcP B C H1 R J D) (lcP_start (k H1 x1).ok hD (Ex.refl _ _)) (fun i H' _ p => le_t (wo_le B H') (le_t (p.1.sub (k H1 x1).ok.hC).le hS)) (fun i x H' hx p => (k H1 x1).step hD (lt hx) hx p) (fun H' p => (k H1 x1).end_ hD p)⟩)
theorem z_lcL {xs : List V} {tl : TE} {Q : VK} (htl : ∀ R : VK, (∀ a H1, Ex [] H H1 → SqL K (wo B H1) a xs → R (.ref a) H1) → tl σ H R) (R : Nat → V → Hp → Prop) (J : Nat → Hp → Prop)
    (k : ∀ H1, Ex [] H H1 → LcAll B C H1 R J g te vs σ xs.length (fun i x => xs[i]? = some x) Q) : tLc (iList K tl) g tYes te vs σ H Q := by
  have lt : ∀ {i : Nat} {x : V}, xs[i]? = some x → i < xs.length := fun h => by
    obtain ⟨h, _⟩ := List.getElem?_eq_some_iff.mp h
    exact h
  exact (htl _ fun a H1 x1 hS => ⟨a, rfl, ⟨xs, le_l (wo_le B H1) hS⟩, fun D hD => lc_list (LcP B C H1 R J D) (lcP_start (k H1 x1).ok hD (Ex.refl _ _)) (fun i H' _ p => le_l (wo_le B H') (le_l (p.1.sub (k H1 x1).ok.hC).le hS)) (fun i x H' hx p => (k H1 x1).step hD (lt hx) hx p) (fun H' p => (k H1 x1).end_ hD p)⟩)
theorem z_lcR {n : Nat} {lo : Int} {Q : VK} {wi : TI} (hwi : ∀ R : It → Hp → Prop, (∀ H1, Ex [] H H1 → R (Itr lo n) H1) → wi σ H R) (R : Nat → V → Hp → Prop) (J : Nat → Hp → Prop)
    (k : ∀ H1, Ex [] H H1 → LcAll B C H1 R J g te vs σ n (fun i x => x = .int (lo + i)) Q) : tLc wi g tYes te vs σ H Q :=
  hwi _ fun H1 x1 D hD => lc_range (LcP B C H1 R J D) (lcP_start (k H1 x1).ok hD (Ex.refl _ _)) (fun i H' hi p => (k H1 x1).step hD hi rfl p) (fun H' p => (k H1 x1).end_ hD p)
end

/-! ### data -/
/-- a tuple | a list -/
def sq (t : Bool) (ds : List PyData) : PyData := if t then .tuple ds else .list ds
section
variable {K : PySem.W.Frag} {G H : Hp} {v : V} {t : Bool} {ds : List PyData} {xs : List V} {B : List Addr}
theorem dp_sq (h : Dp K G v (sq t ds)) : ∃ a xs, v = .ref a ∧ SqX t K G a xs ∧ DpAll K G xs ds := by
  cases t with
  | true => cases (show Dp K G v (.tuple ds) from h) with | tup h1 h2 => exact ⟨_, _, rfl, h1, h2⟩
  | false => cases (show Dp K G v (.list ds) from h) with | lst h1 h2 => exact ⟨_, _, rfl, h1, h2⟩
theorem dp_tup (h : Dp K G v (.tuple ds)) : ∃ a xs, v = .ref a ∧ SqT K G a xs ∧ DpAll K G xs ds := by
  cases h with | tup h1 h2 => exact ⟨_, _, rfl, h1, h2⟩
theorem dp_int {i : Int} (h : Dp K G v (.int i)) : v = .int i := by cases h; rfl
theorem dp_bl {i : Bool} (h : Dp K G v (.bool i)) : v = .bl i := by cases h; rfl
theorem dpa_len : ∀ {xs : List V} {ds : List PyData}, DpAll K G xs ds → xs.length = ds.length
  | _, _, .nil => rfl
  | _, _, .cons _ h => by rw [List.length_cons, List.length_cons, dpa_len h]
theorem dpa_get : ∀ {xs : List V} {ds : List PyData} {i : Nat} {d : PyData}, DpAll K G xs ds → ds[i]? = some d → ∃ v, xs[i]? = some v ∧ Dp K G v d
  | _, _, _, _, .nil, e => by simp at e
  | _, _, 0, _, .cons r _, e => by simp at e; subst e; exact ⟨_, rfl, r⟩
  | _, _, i + 1, d, .cons _ t, e => by
    obtain ⟨u, h1, h2⟩ := dpa_get (i := i) (d := d) t (by simpa using e)
    exact ⟨u, by simpa using h1, h2⟩
theorem dpa_get' {i : Nat} {v : V} (h : DpAll K G xs ds) (e : xs[i]? = some v) : ∃ d, ds[i]? = some d ∧ Dp K G v d := by
  have hl := dpa_len h
  obtain ⟨hi, _⟩ := List.getElem?_eq_some_iff.mp e
  obtain ⟨u, h1, h2⟩ := dpa_get h (List.getElem?_eq_getElem (show i < ds.length by omega))
  rw [e] at h1
  cases h1
  exact ⟨_, List.getElem?_eq_getElem (show i < ds.length by omega), h2⟩
theorem dpa_of : ∀ {xs : List V} {ds : List PyData}, xs.length = ds.length → (∀ (i : Nat) (v : V), xs[i]? = some v → ∃ d, ds[i]? = some d ∧ Dp K G v d) → DpAll K G xs ds
  | [], [], _, _ => .nil
  | [], _ :: _, h, _ => by simp at h
  | _ :: _, [], h, _ => by simp at h
  | x :: xs, d :: ds, h, q => by
    refine .cons ?_ (dpa_of (by simpa using h) fun i v e => ?_)
    · obtain ⟨d', e1, e2⟩ := q 0 x rfl
      cases e1
      exact e2
    · obtain ⟨d', e1, e2⟩ := q (i + 1) v (by simpa using e)
      exact ⟨d', by simpa using e1, e2⟩
theorem dpa_ints : ∀ {ns : List Int} {xs : List V}, DpAll K G xs (ns.map PyData.int) → xs = ns.map V.int
  | [], _, h => by cases h; rfl
  | n :: ns, _, h => by
    cases h with
    | cons h1 h2 => rw [dp_int h1, dpa_ints h2]; rfl
theorem dpa_of_ints : ∀ (ns : List Int), DpAll K G (ns.map V.int) (ns.map PyData.int)
  | [] => .nil
  | n :: ns => .cons (.int n) (dpa_of_ints ns)
theorem z_ixD {i : Int} {d : PyData} {j : Nat} {Q : VK} (h : Dp K G v (sq t ds)) (le : Le G H) (ei : i = (j : Int)) (hd : ds[j]? = some d) (q : ∀ u, Dp K G u d → Q u H) : rIx K v (.int i) H Q := by
  obtain ⟨a, xs, rfl, hS, hA⟩ := dp_sq h
  obtain ⟨u, h1, h2⟩ := dpa_get hA hd
  refine z_ix (le_s le hS.sq) (v := u) ?_ (q u h2)
  rw [ei]
  exact atI_nat h1
theorem Le.refl (H : Hp) : Le H H := fun _ _ h => h
theorem Le.trans {H1 H2 H3 : Hp} (a : Le H1 H2) (b : Le H2 H3) : Le H1 H3 := fun x o h => b x o (a x o h)
theorem Ex.le0 {H H' : Hp} (e : Ex [] H H') : Le H H' := fun a o h => e.1 a o (by simp) h
/-- a comprehension's ints -/
theorem ys_ints {α : Type} {l : List α} {f : α → Int} {ys : List V} (hl : ys.length = l.length) (h : ∀ (j : Nat) (y : V), ys[j]? = some y → ∃ d, l[j]? = some d ∧ y = V.int (f d)) : ys = (l.map f).map V.int := by
  apply List.ext_getElem?
  intro j
  rw [List.getElem?_map, List.getElem?_map]
  by_cases c : j < ys.length
  · obtain ⟨d, e1, e2⟩ := h j ys[j] (List.getElem?_eq_getElem c)
    rw [List.getElem?_eq_getElem c, e1, e2]
    rfl
  · rw [List.getElem?_eq_none (by omega), List.getElem?_eq_none (by omega)]
    rfl
end
theorem fnOk_weak {P : Program} {w : World} {K : PySem.W.Frag} {mg : Str → Option Value} {base : Heap} {CX : CXT} {k : Nat} {f : Addr} {fd : FuncData} {ps : List Str} {sp sp' : Sp} (F : FnOk P w K mg base CX k f fd ps sp) (h : ∀ vs H Q E, sp' vs H Q E → sp vs H Q E) : FnOk P w K mg base CX k f fd ps sp' :=
  ⟨fun vs H Q E q => F.len vs H Q E (h _ _ _ _ q), fun A outer s H args us vs Q E r e b v q => F.run A outer s H args us vs Q E r e b v (h _ _ _ _ q)⟩

/-! ### hills -/
structure Hill where
  year : List (Int × Bool)
  needs : List Int
  most : Int
namespace Hill
def drops (h : Hill) : Int := (h.year.map (·.1)).sum
abbrev dat (t : Bool) (h : Hill) : PyData := sq t [sq t (h.year.map fun d => sq t [.int d.1, .bool d.2]), sq t (h.needs.map PyData.int), .int h.most]
end Hill

theorem cut_head (xs : List V) (n : Nat) : cutV xs none (some (n : Int)) = xs.take n := by
  unfold cutV
  rw [HT.sIx_nat, HT.sIx_none, List.drop_zero, Nat.sub_zero]
  by_cases h : n ≤ xs.length
  · rw [Nat.min_eq_left h]
  · rw [Nat.min_eq_right (by omega), List.take_of_length_le (Nat.le_refl _), List.take_of_length_le (by omega)]
theorem cut_mid (xs : List V) (n m : Nat) (h : xs.length ≤ m) : cutV xs (some (n : Int)) (some (m : Int)) = xs.drop n := by
  unfold cutV
  rw [HT.sIx_nat, HT.sIx_nat, Nat.min_eq_right h]
  by_cases h2 : n ≤ xs.length
  · rw [Nat.min_eq_left h2, List.take_of_length_le]
    rw [List.length_drop]
    omega
  · rw [Nat.min_eq_right (by omega), Nat.sub_self, List.take_zero, List.drop_eq_nil_of_le (by omega)]
theorem ixN_nat {n j : Nat} (hj : j < n) : ixN n (j : Int) = some j := by
  unfold ixN
  rw [if_pos (by omega), if_pos (by omega)]
  simp
theorem set_ints (ms : List Int) (j : Nat) (z : Int) : (ms.map V.int).set j (.int z) = (ms.set j z).map V.int := by
  rw [List.map_set]
theorem get_ints {ms : List Int} {j : Nat} (h : j < ms.length) : (ms.map V.int)[j]? = some (.int ms[j]) := by
  rw [List.getElem?_map, List.getElem?_eq_getElem h]
  rfl

/-! ### the rules with the written part named (a comprehension's block has the same) -/
section
variable {X : Cx}
theorem ixK (K : PySem.W.Frag) (h : X.K = K := by rfl) : IxR X (rIx K) := by subst h; exact ix_any
theorem slK (K : PySem.W.Frag) (h : X.K = K := by rfl) : SlR X (rSlB K) := by subst h; exact sl_seq
theorem lenK (K : PySem.W.Frag) (h : X.K = K := by rfl) : CallR X (.builtin "len") (fun xs H Q => ∃ p ys, xs = [.ref p] ∧ Sq K H p ys ∧ Q (.int ys.length) H) := by subst h; exact call_len_seq
theorem sumK (K : PySem.W.Frag) (hc : X.calm = true := by rfl) (h : X.K = K := by rfl) : CallR X (.builtin "sum") (rSumA K) := by subst h; exact cr_sumA hc
theorem allK (K : PySem.W.Frag) (hc : X.calm = true := by rfl) (h : X.K = K := by rfl) : CallR X (.builtin "all") (rAll K) := by subst h; exact cr_all hc
theorem anyK (K : PySem.W.Frag) (hc : X.calm = true := by rfl) (h : X.K = K := by rfl) : CallR X (.builtin "any") (rAny K) := by subst h; exact cr_any hc
def rListA (K : PySem.W.Frag) : List V → Hp → VK → Prop := fun xs H Q => ∃ p ys, xs = [.ref p] ∧ Sq K H p ys ∧ ∀ l, H l = none → Q (.ref l) (upd H l (.lst ys))
theorem listK (K : PySem.W.Frag) (h : X.K = K := by rfl) : CallR X (.type "list") (rListA K) := by subst h; exact call_list_of
def rTupA (K : PySem.W.Frag) : List V → Hp → VK → Prop := fun xs H Q => ∃ p ys, xs = [.ref p] ∧ ((SqL K H p ys ∧ ∀ l, H l = none → Q (.ref l) (upd H l (.tup ys))) ∨ (SqT K H p ys ∧ Q (.ref p) H))
theorem tupK (K : PySem.W.Frag) (h : X.K = K := by rfl) : CallR X (.type "tuple") (rTupA K) := by subst h; exact call_tuple_of
theorem isiK (K : PySem.W.Frag) (h : X.K = K := by rfl) : CallR X (.builtin "isinstance") (rIsi K) := by subst h; exact call_isi
theorem isiTK (K : PySem.W.Frag) (h : X.K = K := by rfl) : CallR X (.builtin "isinstance") (rIsiT K) := by subst h; exact call_isiT
theorem inK (K : PySem.W.Frag) (h : X.K = K := by rfl) : OpR X (compareOp .In) (rIn K false) := by subst h; exact op_in_seq
theorem ninK (K : PySem.W.Frag) (h : X.K = K := by rfl) : OpR X (compareOp .NotIn) (rIn K true) := by subst h; exact op_notIn_seq
theorem eqDK (K : PySem.W.Frag) (hu : X.A.units + 64 < cLine) (h : X.K = K := by rfl) : OpR X (compareOp .Eq) (rEqD K) := by subst h; exact op_eqD hu
theorem neDK (K : PySem.W.Frag) (hu : X.A.units + 64 < cLine) (h : X.K = K := by rfl) : OpR X (compareOp .NotEq) (rNeD K) := by subst h; exact op_neD hu
theorem catTK (K : PySem.W.Frag) (h : X.K = K := by rfl) : OpR X (binaryOp .Add) (rCatA K) := by subst h; exact op_catA
theorem pg_tupK (K : PySem.W.Frag) (n : Nat) {es : List Expr} {k : Nat} {t : TGs} {pos : Pos} (hc : X.calm = true) (h : PGs X es t) (hK : X.K = K := by rfl) (hn : (assignEach es X.env).length = n := by rfl) (hst : (assignEach es X.env).findIdx? (·.1) = none := by rfl) : PG X (.Tuple es k pos) (gTup K n t) := by
  subst hK
  exact pg_tup hc h hn hst
theorem pi_listK (K : PySem.W.Frag) {tg l : Expr} {tl : TE} (hl : PE X l tl) (h : X.K = K := by rfl) : PI X tg l (iList K tl) := by subst h; exact pi_list hl
theorem pi_tupK (K : PySem.W.Frag) {tg l : Expr} {tl : TE} (hl : PE X l tl) (h : X.K = K := by rfl) : PI X tg l (iTup K tl) := by subst h; exact pi_tup hl
theorem pi_seqK (K : PySem.W.Frag) {tg l : Expr} {tl : TE} (hl : PE X l tl) (h : X.K = K := by rfl) : PI X tg l (fun σ H R => iList K tl σ H R ∨ iTup K tl σ H R) := by subst h; exact pi_seq hl
end

section
variable {K : PySem.W.Frag} {H : Hp} {a : Addr} {xs : List V}
/-- a slice of a list or a tuple -/
theorem z_sl {t : Bool} {lo hi : Option Int} {Q : VK} (h : SqX t K H a xs) (q : ∀ p H', Ex [] H H' → SqX t K H' p (cutV xs lo hi) → Q (.ref p) H') : rSlB K (.ref a) lo hi H Q := by
  cases t with
  | false => exact .inl ⟨a, xs, rfl, h, fun p hp => q p _ (Ex.new hp) (SqL.of upd_same)⟩
  | true =>
    refine .inr ⟨a, xs, rfl, h, fun ⟨e1, e2⟩ => ?_, fun _ p hp => q p _ (Ex.new hp) (SqT.of upd_same)⟩
    have e : cutV xs lo hi = xs := by
      unfold cutV
      rw [e1, e2, List.drop_zero, Nat.sub_zero, List.take_length]
    exact q a H (Ex.refl _ _) (by rw [e]; exact h)
end

/-! ### what a datum's type is -/
def tyN : PyData → String
  | .none => "NoneType" | .bool _ => "bool" | .int _ => "int" | .str _ => "str" | .list _ => "list" | .tuple _ => "tuple" | .dict _ => "dict"
def isIn (a n : String) : Bool := a == n || (a == "bool" && n == "int")
section
variable {K : PySem.W.Frag} {H : Hp} {v : V} {d : PyData} {a : Addr} {xs : List V}
theorem tyx_l (h : SqL K H a xs) : TyX K H (.ref a) (.type "list") := by
  rcases h with (h | ⟨o, h⟩) | ⟨o, its, n, h1, h2, _⟩
  · exact .base (.lst h)
  · exact .base (.frz h)
  · exact .kList h1 h2
theorem tyx_t (h : SqT K H a xs) : TyX K H (.ref a) (.type "tuple") := by
  rcases h with (h | ⟨o, h⟩) | ⟨o, its, n, h1, h2, _⟩
  · exact .base (.tup h)
  · exact .fTuple h
  · exact .kTuple h1 h2
theorem tyx_dp (h : Dp K H v d) : TyX K H v (.type (tyN d)) := by
  cases h with
  | non => exact .base .non
  | bl b => exact .base (.bl b)
  | int i => exact .base (.int i)
  | str x => exact .base (.str x)
  | lst h1 _ => exact tyx_l h1
  | tup h1 _ => exact tyx_t h1
theorem kitB_all : ∀ a ∈ (["NoneType", "bool", "int", "str", "list", "tuple"] : List String), ∀ n ∈ (["list", "tuple", "bool", "int", "str"] : List String), kitB a n = some (isIn a n) := by decide +kernel
theorem tyN_mem (h : Dp K H v d) : tyN d ∈ (["NoneType", "bool", "int", "str", "list", "tuple"] : List String) := by
  cases h <;> simp [tyN]
theorem kitB_of (h : Dp K H v d) {n : String} (hn : n = "list" ∨ n = "tuple" ∨ n = "bool" ∨ n = "int" ∨ n = "str") : kitB (tyN d) n = some (isIn (tyN d) n) :=
  kitB_all _ (tyN_mem h) _ (by rcases hn with rfl | rfl | rfl | rfl | rfl <;> simp)
theorem z_isi {n : String} {Q : VK} (h : Dp K H v d) (hn : n = "list" ∨ n = "tuple" ∨ n = "bool" ∨ n = "int" ∨ n = "str") (q : Q (.bl (isIn (tyN d) n)) H) : rIsi K [v, .ty n] H Q :=
  ⟨v, .ty n, .type (tyN d), .type n, _, rfl, .ty n, tyx_dp h, kit_ty (kitB_of h hn), q⟩
theorem z_isiLT {p : Addr} {Q : VK} (h : Dp K H v d) (hp : H p = some (.tup [.ty "list", .ty "tuple"])) (q : Q (.bl (isIn (tyN d) "list" || isIn (tyN d) "tuple")) H) : rIsiT K [v, .ref p] H Q := by
  refine ⟨v, p, _, .type (tyN d), [.type "list", .type "tuple"], _, rfl, hp, .cons (.ty _) (.cons (.ty _) .nil), tyx_dp h, ?_, q⟩
  have e1 := kitB_of h (n := "list") (.inl rfl)
  have e2 := kitB_of h (n := "tuple") (.inr (.inl rfl))
  exact kitAny_cons (kit_ty e1) (fun e => by rw [e, Bool.false_or]; exact kitAny_cons (kit_ty e2) (fun e => by rw [e]; rfl) (fun e => e)) (fun e => by rw [e]; rfl)
end
mutual
/-- lists for tuples, at any depth -/
def listed : PyData → PyData
  | .list ds => .list (listedAll ds)
  | .tuple ds => .list (listedAll ds)
  | d => d
def listedAll : List PyData → List PyData
  | [] => []
  | d :: ds => listed d :: listedAll ds
end
theorem listedAll_map : ∀ ds : List PyData, listedAll ds = ds.map listed
  | [] => rfl
  | d :: ds => by show listed d :: listedAll ds = _; rw [listedAll_map ds]; rfl
/-- no deeper than n, no longer than 1000 -/
def dpt : Nat → PyData → Prop
  | 0, .list _ => False
  | 0, .tuple _ => False
  | n + 1, .list ds => ds.length ≤ 1000 ∧ ∀ d ∈ ds, dpt n d
  | n + 1, .tuple ds => ds.length ≤ 1000 ∧ ∀ d ∈ ds, dpt n d
  | _, .dict _ => False
  | _, _ => True
section
variable {K : PySem.W.Frag} {g : TG} {te : TE} {vs : List Nat} {σ : L2.St} {H : Hp} {B C : List Addr}
/-- a comprehension over zip of two lists, of two tuples -/
theorem z_lcZ {t : Bool} {xs ys : List V} {ta : TA} {Q : VK} (hl : xs.length = ys.length) (hta : ∀ R : List V → Hp → Prop, (∀ a b H1, Ex [] H H1 → SqX t K (wo B H1) a xs → SqX t K (wo B H1) b ys → R [.ref a, .ref b] H1) → ta σ H R) (R : Nat → V → Hp → Prop) (J : Nat → Hp → Prop)
    (ok : ∀ H1, Ex [] H H1 → LcOk B C H1 R J xs.length)
    (turn : ∀ H1, Ex [] H H1 → ∀ (i : Nat) x y, xs[i]? = some x → ys[i]? = some y → ∀ D T H', H1 D = none → D ∉ B → Ex C H1 H' → J i H' → H' D ≠ none → T ≠ D → H' T = some (.tup [x, y]) →
      ∀ N : VK, (∀ z H3, Ex C H' H3 → R i z (wo (D :: B) H3) → J (i + 1) H3 → N z H3) → g (.ref T) (wipe σ vs) H' fun σ2 H2 => wipe σ2 vs = wipe σ vs ∧ te σ2 H2 N)
    (fin : ∀ H1, Ex [] H H1 → ∀ D zs H', H1 D = none → H' D = some (.lst zs) → zs.length = xs.length → (∀ j y, zs[j]? = some y → R j y (wo B H')) → Ex C H1 H' → J xs.length H' → Q (.ref D) H') :
    tLc (RZ.iZipA K ta) g tYes te vs σ H Q := by
  refine hta _ fun a b H1 x1 hx hy => ?_
  have O := ok H1 x1
  -- the loop, whatever the two are
  have core : ∀ (J0 : It), (∀ i H', J0.go i H' ∨ True) → (∀ i H', i < xs.length → Ex C H1 H' → J0.go i H') → (∀ i H', i = xs.length → Ex C H1 H' → J0.stop i H') →
      (∀ i H' v H'', Ex C H1 H' → J0.yld i H' v H'' → ∃ T x y, v = .ref T ∧ H' T = none ∧ H'' = upd H' T (.tup [x, y]) ∧ xs[i]? = some x ∧ ys[i]? = some y) →
      ∀ D, H1 D = none → ∃ W : Nat → Nat → Hp → Prop, (∃ m, W 0 m (upd H1 D (.lst []))) ∧ ∀ i m H, W i m H →
      ((J0.stop i H ∧ Q (.ref D) H) ∨ (J0.go i H ∧ ∃ Nx : Hp → Prop, (∀ H', Nx H' → ∃ m', m' < m ∧ W (i + 1) m' H') ∧ ∀ x H', J0.yld i H x H' → g x (wipe σ vs) H' fun σ2 H2 => wipe σ2 vs = wipe σ vs ∧ tYes σ2 H2 fun b H3 =>
        if b = true then te σ2 H3 fun y H4 => ∃ acc, H4 D = some (.lst acc) ∧ acc.length < sizeLine ∧ Nx (upd H4 D (.lst (acc ++ [y]))) else Nx H3)) := fun J0 _ hgo hstop hyld D hD => by
    refine ⟨fun i m H' => m = xs.length - i ∧ i ≤ xs.length ∧ LcP B C H1 R J D i H', ⟨xs.length, rfl, Nat.zero_le _, lcP_start O hD (Ex.refl _ _)⟩, ?_⟩
    rintro i m H' ⟨rfl, hi, p⟩
    by_cases hlt : i < xs.length
    · refine .inr ⟨hgo i H' hlt p.1, fun H'' => LcP B C H1 R J D (i + 1) H'', fun H'' p' => ⟨xs.length - (i + 1), by omega, rfl, hlt, p'⟩, fun v H'' yl => ?_⟩
      obtain ⟨T, x, y, rfl, hT, rfl, ex, ey⟩ := hyld i H' v H'' p.1 yl
      have hTD : T ≠ D := fun z => lcP_there p (z ▸ hT)
      have xT : Ex [] H' (upd H' T (.tup [x, y])) := Ex.new hT
      have pT : LcP B C H1 R J D i (upd H' T (.tup [x, y])) := by
        obtain ⟨e1, j1, zs, d1, l1, r1⟩ := p
        exact ⟨e1.trans (Ex.nil xT), O.hJ D i _ _ hD (O.nb hD) (Ex.nil xT) j1, zs, xT.1 D _ (by simp) d1, l1, fun j z hz => O.hR j z _ _ (Ex.nil xT).le (r1 j z hz)⟩
      have h1 := turn H1 x1 i x y ex ey D T _ hD (O.nb hD) pT.1 pT.2.1 (lcP_there pT) hTD upd_same _ (fun z H3 e r j => lcP_turn O hD hlt pT e r j)
      simpa only [tYes, if_true, eq_self] using h1
    · have e : i = xs.length := by omega
      subst e
      obtain ⟨zs, d1, l1, r1, x2, j1⟩ := lcP_end O p
      exact .inl ⟨hstop _ H' rfl p.1, fin H1 x1 D zs H' hD d1 l1 r1 x2 j1⟩
  cases t with
  | false =>
    have hx' : ∀ H', Ex C H1 H' → SqL K H' a xs := fun H' e => le_l (wo_le B H') (le_l (e.sub O.hC).le hx)
    have hy' : ∀ H', Ex C H1 H' → SqL K H' b ys := fun H' e => le_l (wo_le B H') (le_l (e.sub O.hC).le hy)
    refine ⟨a, b, xs, ys, rfl, .inl ⟨hx' H1 (Ex.refl _ _), hy' H1 (Ex.refl _ _), core (Itz K a b) (fun _ _ => .inr trivial) (fun i H' hi e => ?_) (fun i H' hi e => ?_) (fun i H' v H'' e yl => ?_)⟩⟩
    · exact ⟨xs, ys, _, _, hx' H' e, hy' H' e, List.getElem?_eq_getElem hi, List.getElem?_eq_getElem (show i < ys.length by omega)⟩
    · exact ⟨xs, ys, hx' H' e, hy' H' e, .inl (by omega)⟩
    · obtain ⟨T, x, y, rfl, hT, rfl, f1, f2⟩ := yl
      exact ⟨T, x, y, rfl, hT, rfl, f1 xs (hx' H' e), f2 ys (hy' H' e)⟩
  | true =>
    have hx' : ∀ H', Ex C H1 H' → SqT K H' a xs := fun H' e => le_t (wo_le B H') (le_t (e.sub O.hC).le hx)
    have hy' : ∀ H', Ex C H1 H' → SqT K H' b ys := fun H' e => le_t (wo_le B H') (le_t (e.sub O.hC).le hy)
    refine ⟨a, b, xs, ys, rfl, .inr ⟨hx' H1 (Ex.refl _ _), hy' H1 (Ex.refl _ _), core (RZ.ItzT K a b) (fun _ _ => .inr trivial) (fun i H' hi e => ?_) (fun i H' hi e => ?_) (fun i H' v H'' e yl => ?_)⟩⟩
    · exact ⟨xs, ys, _, _, hx' H' e, hy' H' e, List.getElem?_eq_getElem hi, List.getElem?_eq_getElem (show i < ys.length by omega)⟩
    · exact ⟨xs, ys, hx' H' e, hy' H' e, .inl (by omega)⟩
    · obtain ⟨T, x, y, rfl, hT, rfl, f1, f2⟩ := yl
      exact ⟨T, x, y, rfl, hT, rfl, f1 xs (hx' H' e), f2 ys (hy' H' e)⟩
end

/-! ### ranges of any ends -/
/-- the iterator that a range of great ends gives goes through its numbers as a small one's does -/
theorem turn_long {P : Program} {w : World} {K : PySem.W.Frag} {tg : Expr} (at0 : Addr) (lo : Int) (n : Nat) :
    Turn P w K tg (Itr lo n) [at0] at0 (fun k hp => IsLongIter hp at0 (lo + (k : Nat) * 1) ((n : Int) - (k : Nat)) 1) where
  mem := by simp
  obj := fun k hp there b hb => ⟨_, (List.mem_singleton.mp hb) ▸ there, fun v no => by injection (show Data.fields _ = Data.cell v from no)⟩
  keep := fun k hp hp2 there same => same at0 (List.mem_singleton.mpr rfl) _ there
  item := by
    intro X eP ew eK calm k pins sh σ H E J free there more
    subst eP; subst ew; subst eK
    obtain ⟨q0, q1, q2, q3, q4, q5⟩ := free at0 (List.mem_singleton.mpr rfl)
    refine (Walks.longrange (prog := X.prog) (w := X.w) (J.ok.hd calm) at0 lo 1 n).item k sh _ _ more there fun v hp2 tk2 hv there2 rest => ?_
    obtain ⟨tok, rfl⟩ := hv
    have J2 : Inv X pins σ H { sh with heap := hp2, toks := tk2 } := J.turned (fun b o nb e => rest b o (by simpa using nb) e) q0 q1 q3 q4 q5
    exact ⟨_, rfl, go_of (s := { sh with heap := hp2, toks := tk2 }) (n := "longrange_iterator") there2 rfl rfl (by decide)
      ⟨.int (lo + k), H, J2, ⟨tok, by rw [Int.mul_one]⟩, ⟨rfl, rfl⟩, there2, fun b hb => (free b hb).1⟩⟩
  done := by
    intro X eP ew eK calm k pins sh σ H E J free there over
    subst eP; subst ew; subst eK
    obtain ⟨q0, q1, q2, q3, q4, q5⟩ := free at0 (List.mem_singleton.mpr rfl)
    have none_left : (n : Int) - (k : Nat) ≤ 0 := by have : n ≤ k := over; omega
    exact wpAny_pyNext_long_end (J.ok.hd calm) there none_left fun hp2 rest =>
      ⟨rfl, J.turned (t' := sh.toks) (fun b o nb e => rest b o nb e) q0 q1 q3 q4 q5⟩
  self := fun _ _ _ _ _ there q => wpAny_pyIter_longiter there q
section
variable {X : Cx} {tg : Expr}
/-- a range just made, of any ends, gives an iterator -/
theorem range_any {pins : List (Addr × Obj)} {σ : L2.St} {H : Hp} {sh : Shared} {R : It → Hp → Prop} {E : Value → Shared → Prop} {lo hi : Int} {t u v : Tok} {tk : Nat} {ro : Obj}
    (er : ro = { cls := .type "range", data := .fields #[.int lo t, .int hi u, .int 1 v] }) (J : Inv X pins σ H sh) (q : R (Itr lo (hi - lo).toNat) H) :
    wpAny (model X.prog X.w) X.A (pyIter (.ref sh.heap.objs.size)) (PIE X pins σ tg R) E { sh with heap := sh.heap.push ro, toks := tk } := by
  subst er
  generalize er : ({ cls := .type "range", data := .fields #[.int lo t, .int hi u, .int 1 v] } : Obj) = ro
  have there : IsRange (sh.heap.push ro) sh.heap.objs.size lo hi 1 t u v := by subst er; exact IsRange.new ..
  have J2 : Inv X pins σ H { sh with heap := sh.heap.push ro, toks := tk } := J.kept fun b o e => Heap.get?_push_of_some _ e
  have first : lo + ((0 : Nat) : Int) * 1 = lo := by omega
  have left : (((hi - lo).toNat : Nat) : Int) - ((0 : Nat) : Int) = Builtin.Range.rangeSize lo hi 1 := by
    rw [rangeSize_one]
    split <;> omega
  have fp : ∀ b ∈ [(sh.heap.push ro).objs.size], FpOk X pins H b := fun b hb => by
    rw [List.mem_singleton.mp hb]
    exact J2.fpOk (Nat.le_refl _) (J2.hok.fresh (Nat.le_refl _))
  cases hs : Builtin.Range.small lo hi 1 with
  | true =>
    exact wpAny_pyIter_range there hs ⟨(sh.heap.push ro).objs.size, [(sh.heap.push ro).objs.size], _, _, H, rfl, J2.kept (t' := tk) fun b o e => Heap.get?_push_of_some _ e,
      turn_range _ lo (hi - lo).toNat, (by show IsRangeIter _ _ (lo + ((0 : Nat) : Int) * 1) ((((hi - lo).toNat : Nat) : Int) - ((0 : Nat) : Int)) 1; rw [first, left]; exact Heap.get?_push_size _ rfl), fp, q⟩
  | false =>
    exact wpAny_pyIter_longrange there hs ⟨(sh.heap.push ro).objs.size, [(sh.heap.push ro).objs.size], _, _, H, rfl, J2.kept (t' := tk) fun b o e => Heap.get?_push_of_some _ e,
      turn_long _ lo (hi - lo).toNat, (by show IsLongIter _ _ (lo + ((0 : Nat) : Int) * 1) ((((hi - lo).toNat : Nat) : Int) - ((0 : Nat) : Int)) 1; rw [first, left]; exact Heap.get?_push_size _ rfl), fp, q⟩
def iRng2W (ta : TA) : TI := fun σ H R => ta σ H fun vs H1 => ∃ i j : Int, vs = [.int i, .int j] ∧ R (Itr i (j - i).toNat) H1
theorem pi_range2W {a b : Expr} {ta : TA} {p pos : Pos} (glob : Gl X "range") (own : X.mg "range" = none) (ha : PA X [a, b] ta)
    (two : starEach [a, b] X.env = [(false, eval a X.env), (false, eval b X.env)] := by rfl) (one : starEach [b] X.env = [(false, eval b X.env)] := by rfl) :
    PI X tg (.Call (.Name "range" p) [a, b] [] pos) (iRng2W ta) :=
  ⟨fun pins sh σ H R J h => Call_ (ld_blt J glob own boot_range (PyProof.Rows.callWith_type1 (thn (ha.run pos pins sh σ H _ J h) fun us s1 ⟨vs, H1, J1, r1, i, j, e, q⟩ => by
    subst e
    obtain ⟨u1, u2, rfl, ⟨t, rfl⟩, ⟨t', rfl⟩⟩ := vals2 r1
    exact call_range_2 (range_any rfl J1 q)) (by rw [two, one]) (by rw [one]; rfl)))⟩
end
end Hz
namespace Hz
open PySem PySem.Spec PyProof.Rows L2
/-! ### a comprehension over a range, with a test -/
section
variable {K : PySem.W.Frag} {g : TG} {tt : TT} {te : TE} {vs : List Nat} {σ : L2.St} {H : Hp}
theorem z_lcRF {n : Nat} {lo : Int} {Q : VK} {wi : TI} (hwi : ∀ R : It → Hp → Prop, (∀ H1, Ex [] H H1 → R (Itr lo n) H1) → wi σ H R) (hn : n < 100000) (p : Nat → Bool) (f : Nat → V)
    (turn : ∀ H1, Ex [] H H1 → ∀ i, i < n → ∀ D H', H1 D = none → Ex [] H1 H' → H' D ≠ none → ∀ (N : VK) (M : Hp → Prop), (p i = true → ∀ H3, Ex [] H' H3 → N (f i) H3) → (p i = false → ∀ H3, Ex [] H' H3 → M H3) →
      g (.int (lo + i)) (wipe σ vs) H' fun σ2 H2 => wipe σ2 vs = wipe σ vs ∧ tt σ2 H2 fun b H3 => if b = true then te σ2 H3 N else M H3)
    (fin : ∀ H1, Ex [] H H1 → ∀ D H', H1 D = none → H' D = some (.lst (((List.range n).filter p).map f)) → Ex [] H1 H' → Q (.ref D) H') : tLc wi g tt te vs σ H Q := by
  refine hwi _ fun H1 x1 D hD => ?_
  have stay : ∀ {H' H3 : Hp} {xs : List V}, Ex [] H1 H' → Ex [] H' H3 → H' D = some (.lst xs) → H3 D = some (.lst xs) := fun _ e h => e.1 _ _ (by simp) h
  refine lc_range (fun i H' => Ex [] H1 H' ∧ H' D = some (.lst (((List.range i).filter p).map f))) ⟨Ex.new hD, upd_same⟩ (fun i H' hi hP => ?_) (fun H' hP => fin H1 x1 D H' hD hP.2 hP.1)
  obtain ⟨e1, hd⟩ := hP
  refine turn H1 x1 i hi D H' hD e1 (by rw [hd]; exact fun z => by cases z) _ _ (fun hp H3 e3 => ?_) (fun hp H3 e3 => ?_)
  · refine ⟨_, stay e1 e3 hd, sz_lt ?_, (e1.trans e3).mutNew' hD, ?_⟩
    · rw [List.length_map]
      have := List.length_filter_le p (List.range i)
      rw [List.length_range] at this
      omega
    · rw [upd_same, List.range_succ, List.filter_append, List.map_append, List.filter_cons_of_pos hp]
      rfl
  · refine ⟨e1.trans e3, ?_⟩
    rw [stay e1 e3 hd, List.range_succ, List.filter_append, List.map_append, List.filter_cons_of_neg (by rw [hp]; exact Bool.false_ne_true)]
    simp
end
end Hz
set_option Elab.async false
set_option linter.all false
namespace Hz
namespace Hill
def L (h : Hill) : Nat := h.year.length
def drop (h : Hill) (k : Nat) : Int := ((h.year[k % h.L]?).map (·.1)).getD 0
def isOpen (h : Hill) (k : Nat) : Bool := ((h.year[k % h.L]?).map (·.2)).getD false
/-- what days below n gave -/
def ge (h : Hill) (n : Nat) : Int := ((n / h.L : Nat) : Int) * h.drops + ((h.year.take (n % h.L)).map (·.1)).sum
/-- what days up to n gave -/
def given (h : Hill) (n : Nat) : Int := h.ge (n + 1)
theorem at_day {h : Hill} (hL : 0 < h.L) (k : Nat) : ∃ d, h.year[k % h.L]? = some d ∧ h.drop k = d.1 ∧ h.isOpen k = d.2 := by
  have hk : k % h.L < h.year.length := Nat.mod_lt _ hL
  refine ⟨h.year[k % h.L], List.getElem?_eq_getElem hk, ?_, ?_⟩
  · unfold drop; rw [List.getElem?_eq_getElem hk]; rfl
  · unfold isOpen; rw [List.getElem?_eq_getElem hk]; rfl
theorem take_sum {l : List (Int × Bool)} {i : Nat} {d : Int × Bool} (h : l[i]? = some d) : ((l.take (i + 1)).map (·.1)).sum = ((l.take i).map (·.1)).sum + d.1 := by
  rw [List.take_add_one, h, List.map_append, List.sum_append]
  simp
theorem ge_succ {h : Hill} (hL : 0 < h.L) (n : Nat) : h.ge (n + 1) = h.ge n + h.drop n := by
  obtain ⟨d, hd, ed, _⟩ := at_day hL n
  have hlt : n % h.L < h.L := Nat.mod_lt _ hL
  unfold ge
  rw [ed]
  by_cases c : n % h.L + 1 < h.L
  · have e1 : (n + 1) / h.L = n / h.L := by
      rw [Nat.succ_div]
      have : ¬ h.L ∣ n + 1 := by
        intro z
        have := Nat.mod_eq_zero_of_dvd z
        rw [Nat.add_mod, Nat.mod_eq_of_lt (show 1 < h.L by omega), Nat.mod_eq_of_lt c] at this
        omega
      rw [if_neg this]; omega
    have e2 : (n + 1) % h.L = n % h.L + 1 := by
      rw [Nat.add_mod, Nat.mod_eq_of_lt (show 1 < h.L by omega), Nat.mod_eq_of_lt c]
    rw [e1, e2, take_sum hd]
    omega
  · have ec : n % h.L + 1 = h.L := by omega
    have en := Nat.div_add_mod n h.L
    have e0 : n + 1 = h.L * (n / h.L + 1) := by rw [Nat.mul_add, Nat.mul_one]; omega
    have e1 : (n + 1) / h.L = n / h.L + 1 := by rw [e0]; exact Nat.mul_div_cancel_left _ hL
    have e2 : (n + 1) % h.L = 0 := by rw [e0]; exact Nat.mul_mod_right _ _
    have e3 : ((h.year.take (n % h.L)).map (·.1)).sum + d.1 = h.drops := by
      rw [← take_sum hd, ec]
      unfold L drops
      rw [List.take_length]
    rw [e1, e2, List.take_zero, List.map_nil, List.sum_nil]
    have e4 : (((n / h.L + 1 : Nat)) : Int) * h.drops = ((n / h.L : Nat) : Int) * h.drops + h.drops := by
      rw [show (((n / h.L + 1 : Nat)) : Int) = ((n / h.L : Nat) : Int) + 1 from rfl, Int.add_mul, Int.one_mul]
    rw [e4]
    omega
theorem given_eq {h : Hill} (hL : 0 < h.L) (n : Nat) : h.given n = ((n / h.L : Nat) : Int) * h.drops + ((h.year.take (n % h.L + 1)).map (·.1)).sum := by
  obtain ⟨d, hd, ed, _⟩ := at_day hL n
  unfold given
  rw [ge_succ hL, ed, take_sum hd]
  unfold ge
  omega
theorem given_succ {h : Hill} (hL : 0 < h.L) (n : Nat) : h.given (n + 1) = h.given n + h.drop (n + 1) := ge_succ hL (n + 1)
/-- days that give nothing below nought -/
def Nn (h : Hill) : Prop := ∀ d, d ∈ h.year → 0 ≤ d.1
theorem drop_nn {h : Hill} (hN : h.Nn) (hL : 0 < h.L) (n : Nat) : 0 ≤ h.drop n := by
  obtain ⟨d, hd, ed, _⟩ := at_day hL n
  rw [ed]
  exact hN d (List.mem_of_getElem? hd)
theorem ge_mono {h : Hill} (hN : h.Nn) (hL : 0 < h.L) {n m : Nat} (l : n ≤ m) : h.ge n ≤ h.ge m := by
  induction m with
  | zero => have : n = 0 := by omega
            subst this; exact Int.le_refl _
  | succ m ih =>
    by_cases c : n = m + 1
    · subst c; exact Int.le_refl _
    · have := ih (by omega)
      have d := drop_nn hN hL m
      rw [ge_succ hL]
      omega
theorem given_mono {h : Hill} (hN : h.Nn) (hL : 0 < h.L) {n m : Nat} (l : n ≤ m) : h.given n ≤ h.given m := ge_mono hN hL (by omega)
theorem ge_year {h : Hill} (hL : 0 < h.L) (n k : Nat) : h.ge (n + k * h.L) = h.ge n + k * h.drops := by
  unfold ge
  rw [Nat.add_mul_mod_self_right, Nat.add_mul_div_right _ _ hL]
  rw [show ((n / h.L + k : Nat) : Int) = ((n / h.L : Nat) : Int) + (k : Int) from rfl, Int.add_mul]
  omega
theorem given_year {h : Hill} (hL : 0 < h.L) (n k : Nat) : h.given (n + k * h.L) = h.given n + k * h.drops := by
  unfold given
  rw [show n + k * h.L + 1 = (n + 1) + k * h.L by omega, ge_year hL]
theorem isOpen_year {h : Hill} (n k : Nat) : h.isOpen (n + k * h.L) = h.isOpen n := by
  unfold isOpen
  rw [Nat.add_mul_mod_self_right]
theorem ge_zero (h : Hill) : h.ge 0 = 0 := by
  unfold ge
  simp
theorem least {P : Nat → Prop} (hd : ∀ n, P n ∨ ¬ P n) (n : Nat) : ∀ m, n ≤ m → P m → ∃ k, n ≤ k ∧ k ≤ m ∧ P k ∧ ∀ j, n ≤ j → j < k → ¬ P j := by
  intro m
  induction m using Nat.strongRecOn with
  | ind m ih =>
    intro hm hp
    by_cases c : ∃ j, n ≤ j ∧ j < m ∧ P j
    · obtain ⟨j, h1, h2, h3⟩ := c
      obtain ⟨k, a, b, p, q⟩ := ih j h2 h1 h3
      exact ⟨k, a, by omega, p, q⟩
    · exact ⟨m, hm, Nat.le_refl _, hp, fun j a b p => c ⟨j, a, b, p⟩⟩
/-- m is the first open day from n on -/
def OpenFrom (h : Hill) (n m : Nat) : Prop := n ≤ m ∧ h.isOpen m = true ∧ ∀ k, n ≤ k → k < m → h.isOpen k = false
theorem openFrom_ex {h : Hill} (hL : 0 < h.L) (ho : ∃ d, d ∈ h.year ∧ d.2 = true) (n : Nat) : ∃ m, h.OpenFrom n m ∧ m < n + h.L := by
  obtain ⟨d, hd, e⟩ := ho
  obtain ⟨j, hj, ej⟩ := List.getElem_of_mem hd
  have hjo : ∀ q, h.isOpen (j + q * h.L) = true := fun q => by
    rw [isOpen_year]
    unfold isOpen
    rw [Nat.mod_eq_of_lt (show j < h.L from hj), List.getElem?_eq_getElem hj, ej]
    exact e
  have hjl : j < h.L := hj
  -- the greatest year's place below n + L
  have en := Nat.div_add_mod n h.L
  have hmod : n % h.L < h.L := Nat.mod_lt _ hL
  have hc : n / h.L * h.L = h.L * (n / h.L) := Nat.mul_comm _ _
  by_cases c : n % h.L ≤ j
  · have h1 : n ≤ j + n / h.L * h.L := by rw [hc]; omega
    obtain ⟨k, a, b, p, q⟩ := least (P := fun k => h.isOpen k = true) (fun k => Decidable.em _) n _ h1 (hjo _)
    exact ⟨k, ⟨a, p, fun i x y => Bool.eq_false_iff.mpr (q i x y)⟩, by rw [hc] at b; omega⟩
  · have h1 : n ≤ j + (n / h.L + 1) * h.L := by rw [Nat.add_mul, hc]; omega
    obtain ⟨k, a, b, p, q⟩ := least (P := fun k => h.isOpen k = true) (fun k => Decidable.em _) n _ h1 (hjo _)
    exact ⟨k, ⟨a, p, fun i x y => Bool.eq_false_iff.mpr (q i x y)⟩, by rw [Nat.add_mul, hc] at b; omega⟩
theorem openFrom_uniq {h : Hill} {n a b : Nat} (x : h.OpenFrom n a) (y : h.OpenFrom n b) : a = b := by
  obtain ⟨x1, x2, x3⟩ := x
  obtain ⟨y1, y2, y3⟩ := y
  rcases Nat.lt_trichotomy a b with c | c | c
  · rw [y3 a x1 c] at x2; cases x2
  · exact c
  · rw [x3 b y1 c] at y2; cases y2
/-- m is the first open day by whose evening t drops were given -/
def DayOf (h : Hill) (t : Int) (m : Nat) : Prop := h.isOpen m = true ∧ t ≤ h.given m ∧ ∀ k, k < m → h.isOpen k = true → h.given k < t
theorem dayOf_uniq {h : Hill} {t : Int} {a b : Nat} (x : h.DayOf t a) (y : h.DayOf t b) : a = b := by
  obtain ⟨x1, x2, x3⟩ := x
  obtain ⟨y1, y2, y3⟩ := y
  rcases Nat.lt_trichotomy a b with c | c | c
  · have := y3 a c x1; omega
  · exact c
  · have := x3 b c y1; omega
theorem dayOf_of {h : Hill} (hN : h.Nn) (hL : 0 < h.L) {t : Int} {p m : Nat} (h1 : t ≤ h.given p) (h2 : ∀ k, k < p → h.given k < t) (h3 : h.OpenFrom p m) : h.DayOf t m := by
  obtain ⟨a, b, c⟩ := h3
  refine ⟨b, Int.le_trans h1 (given_mono hN hL a), fun k hk ho => ?_⟩
  by_cases d : k < p
  · exact h2 k d
  · rw [c k (by omega) hk] at ho; cases ho
theorem ge_at {h : Hill} (hL : 0 < h.L) (y j : Nat) (hj : j < h.L) : h.ge (y * h.L + j) = y * h.drops + ((h.year.take j).map (·.1)).sum := by
  unfold ge
  rw [Nat.add_comm, Nat.add_mul_div_right _ _ hL, Nat.add_mul_mod_self_right, Nat.div_eq_of_lt hj, Nat.mod_eq_of_lt hj, Nat.zero_add]
theorem drop_at {h : Hill} (y j : Nat) (hj : j < h.L) : h.drop (y * h.L + j) = (h.year[j]'hj).1 := by
  unfold drop
  rw [Nat.add_comm, Nat.add_mul_mod_self_right, Nat.mod_eq_of_lt hj, List.getElem?_eq_getElem hj]
  rfl
theorem dayOf_ex {h : Hill} (hN : h.Nn) (hL : 0 < h.L) (ho : ∃ d, d ∈ h.year ∧ d.2 = true) (hd : 0 < h.drops) (t : Int) : ∃ m, h.DayOf t m := by
  obtain ⟨m0, ⟨a, b, _⟩, _⟩ := openFrom_ex hL ho (t.toNat * h.L)
  have h1 : t ≤ h.given m0 := by
    have e := ge_at hL t.toNat 0 hL
    rw [Nat.add_zero, List.take_zero, List.map_nil, List.sum_nil] at e
    have m := ge_mono hN hL (show t.toNat * h.L ≤ m0 + 1 by omega)
    have z : (t.toNat : Int) * 1 ≤ (t.toNat : Int) * h.drops := Int.mul_le_mul_of_nonneg_left (by omega) (by omega)
    show t ≤ h.ge (m0 + 1)
    omega
  obtain ⟨k, _, _, p, q⟩ := least (P := fun k => h.isOpen k = true ∧ t ≤ h.given k) (fun k => Decidable.em _) 0 m0 (Nat.zero_le _) ⟨b, h1⟩
  refine ⟨k, p.1, p.2, fun j hj ho => ?_⟩
  have := q j (Nat.zero_le _) hj
  refine Int.not_le.mp fun z => this ⟨ho, z⟩
end Hill
end Hz
set_option Elab.async false
set_option linter.all false
set_option maxRecDepth 100000
set_option maxHeartbeats 2000000
namespace Hz
open PySem PySem.Spec PyProof.Rows L2
/-- a year under way: a list of lists of two -/
structure YearAt (b y : Addr) (as : List Addr) (c : List (Int × Bool)) (H : Hp) : Prop where
  ly : H y = some (.lst (as.map V.ref))
  len : as.length = c.length
  at_ : ∀ (j : Nat) a d, as[j]? = some a → c[j]? = some d → H a = some (.lst [.int d.1, .bl d.2])
  nd : as.Nodup
  ny : y ∉ as
  nb : b ∉ as
  by_ : b ≠ y
section
variable {b y : Addr} {as : List Addr} {c : List (Int × Bool)} {H H' : Hp}
theorem YearAt.ex (h : YearAt b y as c H) (e : Ex [b] H H') : YearAt b y as c H' :=
  ⟨e.1 _ _ (fun z => h.by_ (List.mem_singleton.mp z).symm) h.ly, h.len, fun j a d h1 h2 => e.1 _ _ (fun z => h.nb ((List.mem_singleton.mp z) ▸ List.mem_of_getElem? h1)) (h.at_ j a d h1 h2), h.nd, h.ny, h.nb, h.by_⟩
theorem YearAt.push (h : YearAt b y as c H) {p : Addr} {d : Int} {f : Bool} (hp : H p = some (.lst [.int d, .bl f])) (n1 : p ∉ as) (n2 : p ≠ y) (n3 : p ≠ b) :
    YearAt b y (as ++ [p]) (c ++ [(d, f)]) (upd H y (.lst (as.map V.ref ++ [.ref p]))) := by
  refine ⟨by rw [upd_same, List.map_append]; rfl, by rw [List.length_append, List.length_append, h.len]; rfl, fun j a e h1 h2 => ?_, ?_, ?_, ?_, h.by_⟩
  · have ha : a ≠ y := by
      have : a ∈ as ++ [p] := List.mem_of_getElem? h1
      rcases List.mem_append.mp this with z | z
      · exact fun q => h.ny (q ▸ z)
      · rw [List.mem_singleton.mp z]; exact n2
    rw [upd_ne ha]
    by_cases l : j < as.length
    · rw [List.getElem?_append_left l] at h1
      rw [List.getElem?_append_left (h.len ▸ l)] at h2
      exact h.at_ j a e h1 h2
    · have hj : j = as.length := by
        obtain ⟨q, _⟩ := List.getElem?_eq_some_iff.mp h1
        rw [List.length_append, List.length_singleton] at q
        omega
      subst hj
      rw [List.getElem?_append_right (Nat.le_refl _), Nat.sub_self] at h1
      rw [h.len, List.getElem?_append_right (Nat.le_refl _), Nat.sub_self] at h2
      cases h1
      cases h2
      exact hp
  · rw [List.nodup_append]
    refine ⟨h.nd, by simp, fun a ha q hq => ?_⟩
    rw [List.mem_singleton.mp hq]
    exact fun z => n1 (z ▸ ha)
  · intro z
    rcases List.mem_append.mp z with z | z
    · exact h.ny z
    · exact n2 (List.mem_singleton.mp z).symm
  · intro z
    rcases List.mem_append.mp z with z | z
    · exact h.nb z
    · exact n3 (List.mem_singleton.mp z).symm
theorem YearAt.set (h : YearAt b y as c H) {w : Nat} {a : Addr} {z : Int} {f : Bool} (ha : as[w]? = some a) : YearAt b y as (c.set w (z, f)) (upd H a (.lst [.int z, .bl f])) := by
  have ma := List.mem_of_getElem? ha
  refine ⟨by rw [upd_ne (fun q => h.ny (by rw [q]; exact ma))]; exact h.ly, by rw [List.length_set]; exact h.len, fun j e d h1 h2 => ?_, h.nd, h.ny, h.nb, h.by_⟩
  by_cases q : j = w
  · subst q
    rw [ha] at h1
    cases h1
    rw [upd_same]
    obtain ⟨l, _⟩ := List.getElem?_eq_some_iff.mp h2
    rw [List.length_set] at l
    rw [List.getElem?_set_self l] at h2
    cases h2
    rfl
  · rw [List.getElem?_set_ne (fun z => q z.symm)] at h2
    have ne : e ≠ a := fun z => q (nd_ix h.nd h1 (z ▸ ha))
    rw [upd_ne ne]
    exact h.at_ j e d h1 h2
theorem YearAt.mem (h : YearAt b y as c H) {j : Nat} (hj : j < c.length) : ∃ a, as[j]? = some a ∧ H a = some (.lst [.int (c[j]'hj).1, .bl (c[j]'hj).2]) := by
  have hj' : j < as.length := by rw [h.len]; exact hj
  exact ⟨as[j], List.getElem?_eq_getElem hj', h.at_ j _ _ (List.getElem?_eq_getElem hj') (List.getElem?_eq_getElem hj)⟩
theorem YearAt.fresh (h : YearAt b y as c H) {p : Addr} (hp : H p = none) : p ∉ as ∧ p ≠ y := by
  refine ⟨fun z => ?_, fun z => ?_⟩
  · obtain ⟨j, hj, e⟩ := List.getElem_of_mem z
    have := h.at_ j p (c[j]'(h.len ▸ hj)) (by rw [List.getElem?_eq_getElem hj, e]) (List.getElem?_eq_getElem _)
    rw [hp] at this; cases this
  · have := h.ly
    rw [← z, hp] at this; cases this
end
theorem Bx.ne {b p : Addr} {n : Nat} {H : Hp} (h : Bx b n H) (hp : H p = none) : p ≠ b := fun z => by
  obtain ⟨_, _, _, hb, _⟩ := h
  rw [← z, hp] at hb; cases hb
theorem sq_new {K : PySem.W.Frag} {b p : Addr} {n : Nat} {H : Hp} {xs : List V} (h : Bx b n H) (hp : H p = none) : Sq K (wo [b] (upd H p (.lst xs))) p xs :=
  .inl (SqL.of (wo_of (by simpa using h.ne hp) upd_same))
theorem YearAt.other {b y : Addr} {as : List Addr} {c : List (Int × Bool)} {H : Hp} (h : YearAt b y as c H) {p : Addr} {o : HO} (n1 : p ∉ as) (n2 : p ≠ y) : YearAt b y as c (upd H p o) :=
  ⟨by rw [upd_ne n2.symm]; exact h.ly, h.len, fun j a d h1 h2 => by
    have na : a ≠ p := fun z => n1 (by rw [← z]; exact List.mem_of_getElem? h1)
    rw [upd_ne na]
    exact h.at_ j a d h1 h2, h.nd, h.ny, h.nb, h.by_⟩
theorem sum_pos : ∀ {l : List Int} {z : Int}, (∀ x, x ∈ l → 0 ≤ x) → z ∈ l → z ≤ l.sum
  | [], _, _, h => by cases h
  | a :: r, z, h0, h => by
    rw [List.sum_cons]
    have hr : 0 ≤ r.sum := by
      clear h
      induction r with
      | nil => exact Int.le_refl _
      | cons b q ih =>
        rw [List.sum_cons]
        have h1 := h0 b (by simp)
        have h2 := ih fun x hx => by
          rcases List.mem_cons.mp hx with e | e
          · exact h0 x (by rw [e]; simp)
          · exact h0 x (by simp [e])
        omega
    rcases List.mem_cons.mp h with e | e
    · subst e; omega
    · have h1 := h0 a (List.mem_cons_self ..)
      have h2 := sum_pos (l := r) (z := z) (fun x hx => h0 x (List.mem_cons_of_mem _ hx)) e
      omega
/-- a year with a drop, and an open day -/
structure YearOk (c : List (Int × Bool)) (n : Nat) : Prop where
  len : c.length = n
  bd : ∀ d ∈ c, 0 ≤ d.1 ∧ d.1 ≤ 10 ^ 11
  op : ∃ d, d ∈ c ∧ d.2 = true
  dr : 0 < (c.map (·.1)).sum
theorem year_fix {c : List (Int × Bool)} {wn ln : Nat} {M d' : Int} {f f' : Bool} (hw : wn < c.length) (hl : ln < c.length) (hc : ∀ d ∈ c, 0 ≤ d.1 ∧ d.1 ≤ 10 ^ 11) (hM : 1 ≤ M) (hM2 : M ≤ 10 ^ 11)
    (hd : (c.set wn (M, f))[ln]? = some (d', f')) : YearOk ((c.set wn (M, f)).set ln (d', true)) c.length := by
  have h1 : ∀ d ∈ c.set wn (M, f), 0 ≤ d.1 ∧ d.1 ≤ 10 ^ 11 := fun d hd => by
    rcases List.mem_or_eq_of_mem_set hd with h | h
    · exact hc d h
    · rw [h]; exact ⟨by show 0 ≤ M; omega, hM2⟩
  have h2 := h1 _ (List.mem_of_getElem? hd)
  have hl' : ln < (c.set wn (M, f)).length := by rw [List.length_set]; exact hl
  have h3 : ∀ d ∈ (c.set wn (M, f)).set ln (d', true), 0 ≤ d.1 ∧ d.1 ≤ 10 ^ 11 := fun d hd => by
    rcases List.mem_or_eq_of_mem_set hd with h | h
    · exact h1 d h
    · rw [h]; exact h2
  refine ⟨by rw [List.length_set, List.length_set], h3, ⟨(d', true), ?_, rfl⟩, ?_⟩
  · exact List.mem_of_getElem? (List.getElem?_set_self hl')
  · have hm : ∃ e, e ∈ (c.set wn (M, f)).set ln (d', true) ∧ 1 ≤ e.1 := by
      by_cases q : ln = wn
      · subst q
        rw [List.getElem?_set_self hw] at hd
        cases hd
        exact ⟨_, List.mem_of_getElem? (List.getElem?_set_self hl'), hM⟩
      · refine ⟨(M, f), List.mem_of_getElem? (i := wn) ?_, hM⟩
        rw [List.getElem?_set_ne q, List.getElem?_set_self hw]
    obtain ⟨e, he, e1⟩ := hm
    have := sum_pos (l := ((c.set wn (M, f)).set ln (d', true)).map (·.1)) (z := e.1) (fun x hx => by
      obtain ⟨d, hd, rfl⟩ := List.mem_map.mp hx
      exact (h3 d hd).1) (List.mem_map.mpr ⟨e, he, rfl⟩)
    omega
theorem Bx.there {b : Addr} {n : Nat} {H : Hp} (h : Bx b n H) : H b ≠ none := fun z => by
  obtain ⟨_, _, _, hb, _⟩ := h
  rw [z] at hb; cases hb
end Hz
set_option Elab.async false
set_option linter.all false
set_option maxRecDepth 100000
set_option maxHeartbeats 2000000
namespace Hz
open PySem PySem.Spec PyProof.Rows L2
/-! ### defs that ask for a repr: no repr is under way where they are called -/
structure FnG (P : Program) (w : World) (K : PySem.W.Frag) (mg : Str → Option Value) (base : Heap) (k : Nat) (f : Addr) (fd : FuncData) (ps : List Str) (sp : Sp) : Prop where
  len : ∀ vs H Q E, sp vs H Q E → vs.length = ps.length
  go : ∀ (A : Around) (outer : List Env) (s : Shared) (H : Hp) (args : Args) (us : List Value) (vs : List V) (Q : VK) (E : XK),
    Room k A → A.guards = some [] → Env0 P w K mg base A outer s H → BindsTo s fd args (ps.zip us) → Vals vs us → sp vs H Q E → codeAny (model P w) A (.call (.ref f) args) (CR CX0 outer P w H s Q E) s
section
variable {P : Program} {w : World} {K : PySem.W.Frag} {mg : Str → Option Value} {base : Heap} {k : Nat} {f : Addr} {fd : FuncData} {ps : List Str} {sp : Sp}
/-- the body of such a def -/
theorem okG {x qual : Str} {st : Stmt} {N : List Str} (F : Fun K x qual st f fd) (S : FnScope N ps (defScope st)) (len : ∀ vs H Q E, sp vs H Q E → vs.length = ps.length)
    (body : ∀ (cdv : Value) (A : Around) (outer : List Env) (s : Shared) (H : Hp) (vs : List V) (Q : VK) (E : XK), Room k (A.deeper (envOfC qual (defScope st) s.heap.objs.size f cdv)) → A.guards = some [] → sp vs H Q E →
      ∃ t, PSs (cxOf CX0 P w K mg base N qual (defScope st) f cdv A outer s H E).nox (defBody st) t ∧ t { nx := fun _ H' => Q .non H', rt := Q } (start N vs) H) : FnG P w K mg base (k + 1) f fd ps sp := by
  obtain ⟨oc, od, kV, doc, pm, an, cdv, ct, osl, rfl, lk, code⟩ := F.ex
  refine ⟨len, fun A outer s H args us vs Q E room gd e0 bd rv want => ?_⟩
  have inK : K.In s.heap := e0.mod.kin.keeps fun b o e => (e0.bs b o e).1
  have noLim : s.heap.NoLimit := e0.mod.nolimit.keeps fun b o e => (e0.bs b o e).1
  have places : ∀ y ∈ ps.zip us, (defScope st).names.lookup y.1 = some .local ∨ ((defScope st).names.lookup y.1 = some .cell ∧ ((cellsFrom (s.heap.objs.size + 1) (defScope st).names []).lookup y.1).isSome = true) := by
    rintro ⟨n, v⟩ hy
    exact (S.par n (List.of_mem_zip hy).1).elim .inl fun q => .inr ⟨q, PySem.W.cellsFrom_some _ _ _ (.inl q)⟩
  refine codeAny_call_function room.depth (inK _ _ lk) rfl S.co S.gen rfl (PySem.W.codeRec_of inK code) (bd _ _ _ _ ?_)
  refine wpAny_newFunctionEnv_cells S.kind places fun env made s1 x => ?_
  subst made
  refine ⟨noLim.keeps x.toInCall.keep, codeAny_func ?_⟩
  obtain ⟨t, ht, hq⟩ := body cdv A outer s H vs Q E (room.deeper _) gd want
  refine wpAny_mono (ht.nox.run [] s1 (start N vs) H _ (inv_start S room.hd e0 (len _ _ _ _ want) rv x) hq) (fun fl s' ends => ?_) fun _ _ z => z
  match fl, ends with
  | .ret u, ⟨v, σ', H', J, r, q⟩ => exact ⟨v, H', J.os, J.bare, J.base, J.hok, r, q⟩
  | .next, ⟨σ', H', J, q⟩ => exact ⟨V.non, H', J.os, J.bare, J.base, J.hok, rfl, q⟩
  | .brk, ⟨_, _, _, q⟩ => exact q.elim
  | .cont, ⟨_, _, _, q⟩ => exact q.elim
end
section
variable {X : Cx} {k : Nat} {f : Addr} {fd : FuncData} {ps : List Str} {sp : Sp} {x : Str} {p pos : Pos} {e : Expr} {es : List Expr} {t : TA}
/-- its call by name -/
theorem pe_callG (F : FnG X.prog X.w X.K X.mg X.base k f fd ps sp) (room : Room k X.A) (gd : X.A.guards = some []) (glob : Gl X x) (stands : X.mg x = some (.ref f)) (kept : PySem.W.keepIn X.K (.ref f) = true) (bd : Binds X.K fd ps [])
    (ha : PA X (e :: es) t) (nd : (x == ("__debug__" : Str)) = false := by decide) (plain : starEach (e :: es) X.env = (false, eval e X.env) :: starEach es X.env := by rfl) (nostar : (backTo pos (starEach es X.env)).any (·.1) = false := by rfl) :
    PE X (.Call (.Name x p) (e :: es) [] pos) (tCall sp [] E0 t) := by
  refine ⟨fun pins s σ H Q J h => wpAny_Call_Name_kw (ld_glob J glob stands ?_ nd)⟩
  refine PySem.W.callWith_K (h₀ := X.base) J.ok.mod.kin kept (thn (ha.run pos pins s σ H _ J h) fun us s1 ⟨vs, H1, J1, rv, want⟩ => ⟨J1.kIn, ?_⟩) plain nostar
  have rv' : Vals (vs ++ []) (us ++ []) := rv.append .nil
  have many : (us ++ []).length = ps.length := by rw [← rv'.length]; exact F.len _ _ _ _ want
  refine wpAny_call (codeAny_mono (F.go X.A X.stack s1 H1 ⟨us, []⟩ (us ++ []) (vs ++ []) Q E0 room gd J1.env0 (bd s1 us J1.kIn many) rv' want) fun r s' hq => ?_)
  match r, hq with
  | .ok (.ret u), hq => exact J1.after hq
  | .ok .next, hq => exact hq.elim
  | .ok .brk, hq => exact hq.elim
  | .ok .cont, hq => exact hq.elim
  | .error _, hq => exact hq.elim
/-- repr of data -/
def rRepr (K : PySem.W.Frag) : List V → Hp → VK → Prop := fun xs H Q => ∃ (x : V) (d : PyData), xs = [x] ∧ Dp K H x d ∧ d.showable = true ∧ d.hasDict = false ∧ d.depth ≤ 20 ∧ d.shown.length ≤ sizeLine ∧ (∃ a, x = .ref a) ∧ Q (.str d.shown) H
theorem reprK (K : PySem.W.Frag) (units : X.A.units + 64 < cLine) (gd : X.A.guards = some []) (h : X.K = K := by rfl) : CallR X (.builtin "repr") (rRepr K) := by
  subst h
  intro pins s σ H xs us Q J rv ⟨x, d, ex, hd, h1, h2, h3, h4, ⟨a, ea⟩, q⟩
  subst ex
  subst ea
  obtain ⟨u, rfl, r⟩ := Vals.one rv
  obtain ⟨as, rd⟩ := Dp.reads J d _ u hd r
  cases r
  exact repr_of_reads' rd h1 (PyData.noDict_hsm h2) gd (by omega) (fun _ _ z => z) (fun h' t tk hk => ⟨.str d.shown, H, J.kept hk, ⟨_, rfl⟩, q⟩) h4
end

section
variable {X : Cx}
/-- parts by a list or a tuple -/
def gSq (K : PySem.W.Frag) (n : Nat) (t : TGs) : TG := fun v σ H Q => gUnl K n t v σ H Q ∨ gTup K n t v σ H Q
theorem pg_seqK (K : PySem.W.Frag) (n : Nat) {es : List Expr} {k : Nat} {t : TGs} {pos : Pos} (hc : X.calm = true) (h : PGs X es t) (hK : X.K = K := by rfl) (hn : (assignEach es X.env).length = n := by rfl) (hst : (assignEach es X.env).findIdx? (·.1) = none := by rfl) : PG X (.Tuple es k pos) (gSq K n t) := by
  subst hK
  refine ⟨fun pins s σ H v u Q I r hw => ?_⟩
  rcases hw with hw | hw
  · exact (pg_unl hc h hn hst).run pins s σ H v u Q I r hw
  · exact (pg_tup hc h hn hst).run pins s σ H v u Q I r hw
end
/-! ### the law's own call -/
theorem law_runG {P : Program} {w : World} {K : PySem.W.Frag} {mg mb : Str → Option Value} {k : Nat} {fa a : Addr} {fd : FuncData} {x : Str} {sp : Sp} {s1 : Shared} {vs : List Value} {ns : List Int}
    (inK : K.In s1.heap) (names : s1.heap.Ns mainGlobals mg) (blt : s1.heap.Ns builtinsNs mb) (boot : ∀ x : Str, x ≠ "__name__" → mb x = bootBuiltins x) (lim : s1.heap.NoLimit) (gens : s1.gens = #[])
    (at_ : s1.heap.get? a = some { cls := .type "list", data := .seq vs.toArray }) (hints : IntsAre vs ns) (few : ns.length ≤ sizeLine) (room : Room k callerA)
    (F : ∀ base : Heap, K.In base → base.Ns mainGlobals mg → FnG P w K mg base k fa fd [x] sp) (bd : ∀ (s : Shared) (u : Value), BindsTo s fd ⟨[u], []⟩ [(x, u)])
    (want : ∀ H : Hp, Only H → SqL K H a (ns.map V.int) → sp [.ref a] H (fun v _ => v = .bl true) fun _ _ _ => False) :
    codeAny (model P w) callerA (.call (.ref fa) ⟨[.ref a], []⟩) (fun r s' => r = .ok (.ret (.bool true)) ∧ OldK s1.heap s'.heap ∧ s'.os = s1.os ∧ AllBare s'.gens) s1 := by
  have rv := vals_ints hints
  -- either the script is one of the module's own objects (nothing is tracked), or it is the only thing tracked, locked
  have run : ∀ H : Hp, Only H → SqL K H a (ns.map V.int) → HOk P w H s1.heap → (∀ b, H b ≠ none → b = a ∧ K.lookup a = none) →
      codeAny (model P w) callerA (.call (.ref fa) ⟨[.ref a], []⟩) (fun r s' => r = .ok (.ret (.bool true)) ∧ OldK s1.heap s'.heap ∧ s'.os = s1.os ∧ AllBare s'.gens) s1 := by
    intro H only there hok just
    have untracked : ∀ b, (b = a → K.lookup a ≠ none) → H b = none := fun b hb => by
      cases q : H b with
      | none => rfl
      | some u =>
        obtain ⟨e1, e2⟩ := just b (by rw [q]; exact fun z => nomatch z)
        exact absurd e2 (hb e1)
    have dictFree : ∀ {b : Addr} {o : Obj} {es : Array DictEntry} {ep : Nat}, s1.heap.get? b = some o → o.data = .dict es ep → H b = none := fun {b o es ep} e d => by
      cases q : H b with
      | none => rfl
      | some u =>
        obtain ⟨e1, _⟩ := just b (by rw [q]; exact fun z => nomatch z)
        rw [e1, at_] at e
        cases e
        exact nomatch (show Data.seq vs.toArray _ = Data.dict es ep from d)
    have nsB : ∀ {b : Addr} {m : Str → Option Value}, s1.heap.Ns b m → (hidT s1.heap H).Ns b m := fun ⟨o, es, ep, e, d, r⟩ => ⟨o, es, ep, hidT_get e (dictFree e d), d, r⟩
    have inB : K.In (hidT s1.heap H) := fun b o e => hidT_get (inK b o e) (untracked b fun z => by rw [← z, e]; exact fun q => nomatch q)
    have md : Mod K mg (hidT s1.heap H) := ⟨inB, nsB names, ⟨mb, nsB blt, boot⟩, lim.elim fun mc hc => ⟨mc, nsB hc.1, hc.2⟩⟩
    have e0 : Env0 P w K mg (hidT s1.heap H) callerA [] s1 H := ⟨rfl, md, fun _ _ e => of_hidT e, Nat.le_of_eq (hidT_size _ _), trivial, fun b hb => (nomatch (show b ∈ ([] : List Addr) from hb)), hok, .of_eq gens⟩
    refine codeAny_mono ((F _ inB (nsB names)).go callerA [] s1 H ⟨[.ref a], []⟩ [.ref a] [.ref a] _ _ room rfl e0 (bd s1 (.ref a)) (.cons rfl .nil) (want H only there)) fun r s' hr => ?_
    match r, hr with
    | .error _, hr => exact hr.elim
    | .ok .next, hr => exact hr.elim
    | .ok .brk, hr => exact hr.elim
    | .ok .cont, hr => exact hr.elim
    | .ok (.ret u), ⟨v, H2, os, bare, un, hok2, r2, q⟩ =>
      obtain rfl : v = .bl true := q
      obtain rfl : u = Value.bool true := r2
      refine ⟨rfl, OldK.of_keep fun b o e => ?_, os, bare⟩
      rcases only b with z | ⟨ob, xs, z⟩
      · exact un.keep b o e z (fun m => nomatch (show b ∈ ([] : List Addr) from m)) (by simp)
      · have e2 := (hok2 b _ (un.frzs b ob _ z)).1
        rw [show s1.heap.get? b = some ob from (hok b _ z).1] at e
        cases e
        exact e2
  by_cases own : ∃ o, K.lookup a = some o
  · obtain ⟨o, ho⟩ := own
    have e := inK a o ho
    rw [at_] at e
    cases e
    exact run (fun _ => none) (fun _ => .inl rfl) (.inr ⟨_, vs.toArray, _, ho, rfl, rfl, rfl, by rw [List.size_toArray, hints.length]; exact few, by simpa using rv⟩) (fun _ _ z => nomatch (show (none : Option HO) = some _ from z)) fun b z => absurd rfl z
  · have none_ : K.lookup a = none := by
      cases q : K.lookup a with
      | none => rfl
      | some o => exact absurd ⟨o, q⟩ own
    refine run (fun b => if b = a then some (.frz { cls := .type "list", data := .seq vs.toArray } (.lst (ns.map V.int))) else none) (fun b => ?_) (.inl (.inr ⟨_, if_pos rfl⟩)) (fun b u z => ?_) (fun b z => ⟨?_, none_⟩)
    · by_cases hb : b = a
      · exact .inr ⟨_, _, if_pos hb⟩
      · exact .inl (if_neg hb)
    · by_cases hb : b = a
      · cases (if_pos hb).symm.trans z
        subst hb
        exact ⟨at_, by rw [List.length_map]; exact few, vs, _, rv, at_⟩
      · exact nomatch (if_neg hb).symm.trans z
    · exact Decidable.byContradiction fun hb => z (if_neg hb)
theorem walk_G {l : PySem.W.OpenLaw} {n k : Nat} {q : Program} {loose : List Str} {XP : (Str → Option Value) → Heap → Prop} {YP : World → Heap → Prop} {d : DefRec} {K : Params → PySem.W.Frag} {sp : World → Sp} {x : Str}
    (most : l.most = some n) (few : n ≤ sizeLine) (nodf : d.params.defaults = []) (room : Room k callerA) (hY : ∀ (w : World) (h : Heap), YP w h → (K w.params).In h)
    (F : ∀ (w : World) (mg : Str → Option Value) (fa : Addr) (h : Heap), (K w.params).In h → h.Ns mainGlobals mg → mg d.name = some (.ref fa) →
      ∃ fd : FuncData, (∀ (s : Shared) (u : Value), BindsTo s fd ⟨[u], []⟩ [(x, u)]) ∧ ∀ base : Heap, (K w.params).In base → base.Ns mainGlobals mg → FnG l.prog w (K w.params) mg base k fa fd [x] (sp w))
    (want : ∀ (w : World) (H : Hp) (a : Addr) (ns : List Int), ns.length ≤ n → Only H → SqL (K w.params) H a (ns.map V.int) → sp w [.ref a] H (fun v _ => v = .bl true) fun _ _ _ => False) :
    PySem.W.WalkO q loose XP YP l.row.toRowW d [] (fun f vs => PySem.call f vs) := by
  refine Att.attach_call most nodf fun w s0 s1 mg mb fa o pm cd doc a vs ns G Y ho hd hcd stands script hints len gens => ?_
  obtain ⟨fd, bd, hF⟩ := F w mg fa _ (hY w _ Y) G.T.g stands
  exact law_runG (hY w _ Y) G.T.g G.T.b G.T.builtins G.T.nolimit gens script hints (Nat.le_trans len few) room hF bd fun H hO hS => want w H a ns len hO hS
end Hz
set_option Elab.async false
set_option linter.all false
namespace Hz
open PySem PyProof.Rows
/-- whole numbers of some size and truths, in rows of twenty at most -/
def Plain : Nat → PyData → Prop
  | _, .int i => i.natAbs < 10 ^ 20
  | _, .bool _ => True
  | n + 1, .list ds => ds.length ≤ 20 ∧ ∀ d ∈ ds, Plain n d
  | n + 1, .tuple ds => ds.length ≤ 20 ∧ ∀ d ∈ ds, Plain n d
  | _, _ => False
structure PlainOk (n : Nat) (d : PyData) : Prop where
  sh : d.showable = true
  hd : d.hasDict = false
  dp : d.depth ≤ n
  lv : d.leavesShort 21 = true
  bk : d.bulk ≤ 21 ^ n - 1
theorem int_log {i : Int} (h : i.natAbs < 10 ^ 20) : i.natAbs.log2 < 1920 := by
  by_cases z : i.natAbs = 0
  · rw [z]; decide
  · rw [Nat.log2_lt z]
    exact Nat.lt_of_lt_of_le h (Nat.le_trans (show 10 ^ 20 ≤ 2 ^ 100 by decide) (Nat.pow_le_pow_right (by decide) (by decide)))
theorem plain_int (n : Nat) {i : Int} (h : i.natAbs < 10 ^ 20) : PlainOk n (.int i) := by
  refine ⟨?_, by simp only [PyData.hasDict], by simp [PyData.depth], ?_, by simp [PyData.bulk]⟩
  · simp only [PyData.showable, decide_eq_true_eq]
    exact int_log h
  · simp only [PyData.leavesShort, decide_eq_true_eq]
    have := int_text_length_le10 (k := 20) (by decide) h
    show (Str.ofString (toString i)).length ≤ 21
    rw [PySem.ofString_length]
    exact this
theorem plain_all {n : Nat} : ∀ {ds : List PyData}, (∀ d ∈ ds, PlainOk n d) → PyData.showableAll ds = true ∧ PyData.hasDictAll ds = false ∧ PyData.depthAll ds ≤ n ∧ PyData.leavesShortAll 21 ds = true ∧ PyData.bulkAll ds ≤ ds.length * 21 ^ n
  | [], _ => ⟨by simp [PyData.showableAll], by simp [PyData.hasDictAll], by simp [PyData.depthAll], by simp [PyData.leavesShortAll], by simp [PyData.bulkAll]⟩
  | d :: ds, h => by
    obtain ⟨a1, a2, a3, a4, a5⟩ := h d (by simp)
    obtain ⟨b1, b2, b3, b4, b5⟩ := plain_all fun d hd => h d (List.mem_cons_of_mem _ hd)
    have hp : 1 ≤ 21 ^ n := Nat.one_le_pow _ _ (by decide)
    refine ⟨by simp [PyData.showableAll, a1, b1], by simp [PyData.hasDictAll, a2, b2], ?_, by simp [PyData.leavesShortAll, a4, b4], ?_⟩
    · simp only [PyData.depthAll]; omega
    · simp only [PyData.bulkAll, List.length_cons]
      rw [Nat.add_mul, Nat.one_mul]
      omega
theorem plain_ok : ∀ {n : Nat} {d : PyData}, Plain n d → PlainOk n d := by
  intro n
  induction n with
  | zero =>
    intro d h
    cases d with
    | int i => exact plain_int 0 h
    | bool b => exact ⟨by simp [PyData.showable], by simp [PyData.hasDict], by simp [PyData.depth], by simp [PyData.leavesShort], by simp [PyData.bulk]⟩
    | none => exact absurd h (by simp [Plain])
    | str _ => exact absurd h (by simp [Plain])
    | list _ => exact absurd h (by simp [Plain])
    | tuple _ => exact absurd h (by simp [Plain])
    | dict _ => exact absurd h (by simp [Plain])
  | succ n ih =>
    intro d h
    have seq : ∀ ds : List PyData, ds.length ≤ 20 → (∀ d ∈ ds, Plain n d) → PyData.showableAll ds = true ∧ PyData.hasDictAll ds = false ∧ PyData.depthAll ds ≤ n ∧ PyData.leavesShortAll 21 ds = true ∧ PyData.bulkAll ds ≤ 21 ^ (n + 1) - 1 := fun ds hl hd => by
      obtain ⟨a, b, c, d, e⟩ := plain_all fun d h => ih (hd d h)
      refine ⟨a, b, c, d, ?_⟩
      have hp : 1 ≤ 21 ^ n := Nat.one_le_pow _ _ (by decide)
      have : ds.length * 21 ^ n ≤ 20 * 21 ^ n := Nat.mul_le_mul_right _ hl
      rw [Nat.pow_succ]
      omega
    cases d with
    | int i => exact plain_int _ h
    | bool b => exact ⟨by simp [PyData.showable], by simp [PyData.hasDict], by simp [PyData.depth], by simp [PyData.leavesShort], by simp [PyData.bulk]⟩
    | none => exact absurd h (by simp [Plain])
    | str _ => exact absurd h (by simp [Plain])
    | list ds =>
      obtain ⟨a, b, c, d, e⟩ := seq ds h.1 h.2
      exact ⟨by simp [PyData.showable, a], by simp [PyData.hasDict, b], by simp only [PyData.depth]; omega, by simp [PyData.leavesShort, d], by simp only [PyData.bulk]; exact e⟩
    | tuple ds =>
      obtain ⟨a, b, c, d, e⟩ := seq ds h.1 h.2
      exact ⟨by simp [PyData.showable, a], by simp [PyData.hasDict, b], by simp only [PyData.depth]; omega, by simp [PyData.leavesShort, d], by simp only [PyData.bulk]; exact e⟩
    | dict _ => exact absurd h (by simp [Plain])
/-- repr of such data -/
theorem repr_plain {K : PySem.W.Frag} {a : Addr} {d : PyData} {H : L2.Hp} {Q : L2.VK} (hd : L2.Dp K H (.ref a) d) (h : Plain 4 d) (q : Q (.str d.shown) H) : rRepr K [.ref a] H Q := by
  obtain ⟨h1, h2, h3, h4, h5⟩ := plain_ok h
  refine ⟨.ref a, d, rfl, hd, h1, h2, by omega, ?_, ⟨a, rfl⟩, q⟩
  have := PyData.shown_le_bulk 21 (by decide) d h4
  have e : sizeLine = 16777216 := by decide
  have e2 : 21 ^ 4 - 1 = 194480 := by decide
  omega
end Hz
set_option Elab.async false
set_option linter.all false
set_option maxRecDepth 100000
set_option maxHeartbeats 2000000
namespace Hz
open PySem PySem.Spec PyProof.Rows L2
/-! ### truths among numbers; texts of scalars -/
def b01 (b : Bool) : Int := if b = true then 1 else 0
section
variable {X : Cx}
/-- str of a number or a truth -/
theorem strX : CallR X (.type "str") (fun xs H Q => (∃ i, xs = [.int i] ∧ i.natAbs.log2 < 1920 ∧ Q (.str (toString i)) H) ∨ ∃ b : Bool, xs = [.bl b] ∧ Q (.str (if b = true then "True" else "False")) H) := by
  intro pins s σ H xs us Q J r h
  rcases h with ⟨i, rfl, hz, q⟩ | ⟨b, rfl, q⟩
  · obtain ⟨u, rfl, t, rfl⟩ := vals1 r
    exact PySem.P.str_of_int hz ⟨.str _, H, J.tok _, ⟨_, rfl⟩, q⟩
  · obtain ⟨u, rfl, e⟩ := Vals.one r
    cases e
    exact PySem.P.str_of_bool ⟨.str _, H, J.tok _, ⟨_, rfl⟩, q⟩
/-- what an int or a truth counts -/
def cnt : V → Option Int
  | .int i => some i
  | .bl b => some (b01 b)
  | _ => none
theorem addX : OpR X (binaryOp .Add) (fun x y H Q => ∃ i j, cnt x = some i ∧ y = .int j ∧ Q (.int (i + j)) H) := by
  intro pins s σ H x y v u Q J rx ry h
  obtain ⟨i, j, e, rfl, q⟩ := h
  obtain ⟨t, rfl⟩ := ry
  cases x with
  | int k =>
    cases e
    exact op_add pins s σ H (.int i) (.int j) v (.int j t) Q J rx (show RelV (.int j) (.int j t) from ⟨t, rfl⟩) ⟨_, _, rfl, rfl, q⟩
  | bl b =>
    cases e
    cases rx
    exact PySem.IntBool.add_bool_int ⟨.int _, H, J.tok _, ⟨_, rfl⟩, q⟩
  | _ => cases e
theorem subX : OpR X (binaryOp .Sub) (fun x y H Q => ∃ i j, x = .int i ∧ cnt y = some j ∧ Q (.int (i - j)) H) := by
  intro pins s σ H x y v u Q J rx ry h
  obtain ⟨i, j, rfl, e, q⟩ := h
  obtain ⟨t, rfl⟩ := rx
  cases y with
  | int k =>
    cases e
    exact op_sub pins s σ H (.int i) (.int j) (.int i t) u Q J (show RelV (.int i) (.int i t) from ⟨t, rfl⟩) ry ⟨_, _, rfl, rfl, q⟩
  | bl b =>
    cases e
    cases ry
    exact PySem.IntBool.sub_int_bool ⟨.int _, H, J.tok _, ⟨_, rfl⟩, q⟩
  | _ => cases e
/-- repr of data of any kind -/
def rReprX (K : PySem.W.Frag) : List V → Hp → VK → Prop := fun xs H Q => ∃ (x : V) (d : PyData), xs = [x] ∧ Dp K H x d ∧ d.showable = true ∧ d.hasDict = false ∧ d.depth ≤ 20 ∧ d.shown.length ≤ sizeLine ∧ Q (.str d.shown) H
theorem reprX (K : PySem.W.Frag) (units : X.A.units + 64 < cLine) (gd : X.A.guards = some []) (h : X.K = K := by rfl) : CallR X (.builtin "repr") (rReprX K) := by
  intro pins s σ H xs us Q J r hh
  obtain ⟨x, d, ex, hd, h1, h2, h3, h4, q⟩ := hh
  by_cases c : ∃ a, x = .ref a
  · exact reprK K units gd h pins s σ H xs us Q J r ⟨x, d, ex, hd, h1, h2, h3, h4, c, q⟩
  · subst ex
    obtain ⟨u, rfl, e⟩ := Vals.one r
    cases hd with
    | non =>
      cases e
      exact PySem.P.repr_of_none ⟨.str _, H, J.tok _, ⟨_, rfl⟩, q⟩
    | bl b =>
      cases e
      exact PySem.P.repr_of_bool ⟨.str _, H, J.tok _, ⟨_, rfl⟩, q⟩
    | int i =>
      obtain ⟨t, rfl⟩ := e
      exact PySem.P.repr_of_int (of_decide_eq_true h1) ⟨.str _, H, J.tok _, ⟨_, rfl⟩, q⟩
    | str z =>
      obtain ⟨t, rfl⟩ := e
      exact PySem.P.repr_of_str ⟨.str _, H, J.tok _, ⟨_, rfl⟩, q⟩ h4
    | _ => exact absurd ⟨_, rfl⟩ c
end
end Hz
set_option Elab.async false
set_option linter.all false
set_option maxRecDepth 100000
set_option maxHeartbeats 2000000
namespace Hz
open PySem PyProof.Rows
mutual
/-- no whole number in it beyond M -/
def iLe (M : Nat) : PyData → Bool
  | .int i => decide (i.natAbs ≤ M)
  | .list ds => iLeAll M ds
  | .tuple ds => iLeAll M ds
  | .none => true
  | .bool _ => true
  | .str _ => true
  | .dict _ => false
def iLeAll (M : Nat) : List PyData → Bool
  | [] => true
  | d :: ds => iLe M d && iLeAll M ds
end
mutual
theorem iLe_show {M : Nat} (hM : M < 10 ^ 20) : ∀ d : PyData, iLe M d = true → d.showable = true ∧ d.intsShort 21 = true
  | .int i, h => by
    have h' : i.natAbs < 10 ^ 20 := Nat.lt_of_le_of_lt (by simpa [iLe] using h) hM
    refine ⟨by simpa [PyData.showable] using int_log h', ?_⟩
    simp only [PyData.intsShort, decide_eq_true_eq]
    show (Str.ofString (toString i)).length ≤ 21
    rw [PySem.ofString_length]
    exact int_text_length_le10 (k := 20) (by decide) h'
  | .bool _, _ => by simp [PyData.showable, PyData.intsShort]
  | .none, _ => by simp [PyData.showable, PyData.intsShort]
  | .str _, _ => by simp [PyData.showable, PyData.intsShort]
  | .list ds, h => by
    obtain ⟨a, b⟩ := iLeAll_show hM ds (by simpa [iLe] using h)
    exact ⟨by simpa [PyData.showable] using a, by simpa [PyData.intsShort] using b⟩
  | .tuple ds, h => by
    obtain ⟨a, b⟩ := iLeAll_show hM ds (by simpa [iLe] using h)
    exact ⟨by simpa [PyData.showable] using a, by simpa [PyData.intsShort] using b⟩
  | .dict _, h => by simp [iLe] at h
theorem iLeAll_show {M : Nat} (hM : M < 10 ^ 20) : ∀ ds : List PyData, iLeAll M ds = true → PyData.showableAll ds = true ∧ PyData.intsShortAll 21 ds = true
  | [], _ => by simp [PyData.showableAll, PyData.intsShortAll]
  | d :: ds, h => by
    have h' : iLe M d = true ∧ iLeAll M ds = true := by simpa [iLeAll] using h
    obtain ⟨a, b⟩ := iLe_show hM d h'.1
    obtain ⟨c, e⟩ := iLeAll_show hM ds h'.2
    exact ⟨by simp [PyData.showableAll, a, c], by simp [PyData.intsShortAll, b, e]⟩
end
/-- data that repr shows and that == takes, whatever its shape: numbers of some size, so deep, so much in all -/
structure Tame (M W D : Nat) (d : PyData) : Prop where
  lay : d.canLay0 = true
  il : iLe M d = true
  dp : d.depth ≤ D
  bk : d.bulk ≤ W
/-- all but the sum -/
def Tame0 (M D : Nat) (d : PyData) : Prop := d.canLay0 = true ∧ iLe M d = true ∧ d.depth ≤ D
theorem Tame.zero {M W D : Nat} {d : PyData} (h : Tame M W D d) : Tame0 M D d := ⟨h.lay, h.il, h.dp⟩
def sumB (ds : List PyData) : Nat := (ds.map fun d => d.bulk + 1).sum
theorem sumB_cons (d : PyData) (ds : List PyData) : sumB (d :: ds) = d.bulk + 1 + sumB ds := by simp [sumB]
theorem sumB_append (a b : List PyData) : sumB (a ++ b) = sumB a + sumB b := by simp [sumB]
theorem sumB_reverse (a : List PyData) : sumB a.reverse = sumB a := by simp [sumB, List.sum_reverse]
theorem bulkAll_eq : ∀ ds : List PyData, PyData.bulkAll ds = sumB ds
  | [] => by simp [PyData.bulkAll, sumB]
  | d :: ds => by
    rw [sumB_cons, ← bulkAll_eq ds]
    simp only [PyData.bulkAll]
mutual
theorem iLe_up {M M' : Nat} (hM : M ≤ M') : ∀ d : PyData, iLe M d = true → iLe M' d = true
  | .int i, h => by
    have : i.natAbs ≤ M := by simpa [iLe] using h
    simpa [iLe] using Nat.le_trans this hM
  | .bool _, _ => by simp [iLe]
  | .none, _ => by simp [iLe]
  | .str _, _ => by simp [iLe]
  | .list ds, h => by simpa [iLe] using iLeAll_up hM ds (by simpa [iLe] using h)
  | .tuple ds, h => by simpa [iLe] using iLeAll_up hM ds (by simpa [iLe] using h)
  | .dict _, h => by simp [iLe] at h
theorem iLeAll_up {M M' : Nat} (hM : M ≤ M') : ∀ ds : List PyData, iLeAll M ds = true → iLeAll M' ds = true
  | [], _ => by simp [iLeAll]
  | d :: ds, h => by
    have h' : iLe M d = true ∧ iLeAll M ds = true := by simpa [iLeAll] using h
    simp [iLeAll, iLe_up hM d h'.1, iLeAll_up hM ds h'.2]
end
theorem Tame.mono {M M' W D W' D' : Nat} {d : PyData} (h : Tame M W D d) (c : M ≤ M') (a : W ≤ W') (b : D ≤ D') : Tame M' W' D' d := ⟨h.lay, iLe_up c d h.il, Nat.le_trans h.dp b, Nat.le_trans h.bk a⟩
theorem Tame0.mono {M M' D D' : Nat} {d : PyData} (h : Tame0 M D d) (c : M ≤ M') (b : D ≤ D') : Tame0 M' D' d := ⟨h.1, iLe_up c d h.2.1, Nat.le_trans h.2.2 b⟩
theorem tame_all {M D : Nat} : ∀ {ds : List PyData}, (∀ d ∈ ds, Tame0 M D d) → PyData.canLayAll0 ds = true ∧ iLeAll M ds = true ∧ PyData.depthAll ds ≤ D
  | [], _ => ⟨by simp [PyData.canLayAll0], by simp [iLeAll], by simp [PyData.depthAll]⟩
  | d :: ds, h => by
    obtain ⟨a1, a2, a4⟩ := h d (by simp)
    obtain ⟨b1, b2, b4⟩ := tame_all fun e he => h e (List.mem_cons_of_mem _ he)
    refine ⟨by simp [PyData.canLayAll0, a1, b1], by simp [iLeAll, a2, b2], ?_⟩
    simp only [PyData.depthAll]
    omega
theorem tame_none {M : Nat} : ∀ {D : Nat} {ds : List PyData}, PyData.canLayAll0 ds = true → iLeAll M ds = true → PyData.depthAll ds ≤ D → ∀ d ∈ ds, Tame0 M D d
  | D, d :: ds, h1, h2, h4, e, he => by
    simp only [PyData.canLayAll0, iLeAll, PyData.depthAll, Bool.and_eq_true] at h1 h2 h4
    rcases List.mem_cons.mp he with rfl | he
    · exact ⟨h1.1, h2.1, by omega⟩
    · exact tame_none h1.2 h2.2 (by omega) e he
theorem tame_seq {t : Bool} {M W D : Nat} {ds : List PyData} (h : ∀ d ∈ ds, Tame0 M D d) (hb : sumB ds ≤ W) : Tame M W (D + 1) (sq t ds) := by
  obtain ⟨a, b, d⟩ := tame_all h
  rw [← bulkAll_eq] at hb
  cases t
  · exact ⟨by show PyData.canLay0 (.list ds) = true; simpa [PyData.canLay0] using a, by show iLe M (.list ds) = true; simpa [iLe] using b, by show PyData.depth (.list ds) ≤ _; simp only [PyData.depth]; omega, by show PyData.bulk (.list ds) ≤ _; simp only [PyData.bulk]; exact hb⟩
  · exact ⟨by show PyData.canLay0 (.tuple ds) = true; simpa [PyData.canLay0] using a, by show iLe M (.tuple ds) = true; simpa [iLe] using b, by show PyData.depth (.tuple ds) ≤ _; simp only [PyData.depth]; omega, by show PyData.bulk (.tuple ds) ≤ _; simp only [PyData.bulk]; exact hb⟩
theorem tame_parts {t : Bool} {M W D : Nat} {ds : List PyData} (h : Tame M W (D + 1) (sq t ds)) : (∀ d ∈ ds, Tame0 M D d) ∧ sumB ds ≤ W := by
  obtain ⟨a, b, d, e⟩ := h
  rw [← bulkAll_eq]
  cases t
  · change PyData.canLay0 (.list ds) = true at a
    change iLe M (.list ds) = true at b
    change PyData.depth (.list ds) ≤ _ at d
    change PyData.bulk (.list ds) ≤ _ at e
    simp only [PyData.canLay0, iLe, PyData.depth, PyData.bulk] at a b d e
    exact ⟨tame_none a b (by omega), e⟩
  · change PyData.canLay0 (.tuple ds) = true at a
    change iLe M (.tuple ds) = true at b
    change PyData.depth (.tuple ds) ≤ _ at d
    change PyData.bulk (.tuple ds) ≤ _ at e
    simp only [PyData.canLay0, iLe, PyData.depth, PyData.bulk] at a b d e
    exact ⟨tame_none a b (by omega), e⟩
theorem Tame.shaped {M W D : Nat} {d : PyData} (h : Tame M W D d) (hD : D ≤ 20) : SeqAt.shaped d = true := by
  unfold SeqAt.shaped
  rw [h.lay, decide_eq_true (by have := h.dp; omega)]
  rfl
theorem Tame.repr {K : PySem.W.Frag} {M W D : Nat} {d : PyData} {x : L2.V} {H : L2.Hp} {Q : L2.VK} (h : Tame M W D d) (hM : M < 10 ^ 20) (hW : W ≤ 100000) (hD : D ≤ 20) (hd : L2.Dp K H x d) (q : Q (.str d.shown) H) : rReprX K [x] H Q := by
  obtain ⟨h1, h2⟩ := iLe_show hM d h.il
  refine ⟨x, d, rfl, hd, h1, PyData.hasDict_of_canLay d h.lay, by have := h.dp; omega, ?_, q⟩
  have := PyData.shown_le_bulk 21 (by decide) d (PyData.leavesShort_of_canLay0 21 d h.lay h2)
  have e : sizeLine = 16777216 := by decide
  have := h.bk
  omega
theorem sumB_len (ds : List PyData) : ds.length ≤ sumB ds := by
  induction ds with
  | nil => simp
  | cons d ds ih =>
    rw [List.length_cons, sumB_cons]
    omega
theorem Tame.dpt : ∀ {D M W : Nat} {d : PyData}, Tame M W D d → W ≤ 1000 → Hz.dpt D d
  | 0, M, W, d, h, hW => by
    cases d with
    | list ds => have := h.dp; simp [PyData.depth] at this
    | tuple ds => have := h.dp; simp [PyData.depth] at this
    | dict _ => have := h.il; simp [iLe] at this
    | _ => trivial
  | D + 1, M, W, d, h, hW => by
    have key : ∀ (t : Bool) (ds : List PyData), Tame M W (D + 1) (sq t ds) → ds.length ≤ 1000 ∧ ∀ e ∈ ds, Hz.dpt D e := fun t ds h => by
      obtain ⟨a, b⟩ := tame_parts h
      refine ⟨by have := sumB_len ds; omega, fun e he => ?_⟩
      obtain ⟨x, y, z⟩ := a e he
      obtain ⟨p, q, rfl⟩ := List.append_of_mem he
      rw [sumB_append, sumB_cons] at b
      exact Tame.dpt (W := W) ⟨x, y, z, by omega⟩ hW
    cases d with
    | list ds => exact key false ds h
    | tuple ds => exact key true ds h
    | dict _ => have := h.il; simp [iLe] at this
    | _ => trivial
end Hz
set_option Elab.async false
set_option linter.all false
namespace Hz
open PySem
/-- how a hill stands -/
structure Now where
  day : Nat
  ant : Nat
  pot : Int
namespace Hill
def need (h : Hill) (i : Nat) : Int := (h.needs[i]?).getD 0
structure At (h : Hill) (s : Now) : Prop where
  op : h.isOpen s.day = true
  an : s.ant < h.needs.length
  p0 : 0 ≤ s.pot
  p1 : s.pot ≤ h.most
/-- what the pot would hold, one need taken, on evening m -/
def over (h : Hill) (s : Now) (m : Nat) : Int := s.pot + h.given m - h.given s.day - h.need s.ant
/-- the evening of the next turn -/
def Eve (h : Hill) (s : Now) (m : Nat) : Prop := s.day ≤ m ∧ h.isOpen m = true ∧ 0 ≤ h.over s m ∧ ∀ k, s.day ≤ k → k < m → h.isOpen k = true → h.over s k < 0
theorem eve_uniq {h : Hill} {s : Now} {a b : Nat} (x : h.Eve s a) (y : h.Eve s b) : a = b := by
  obtain ⟨x1, x2, x3, x4⟩ := x
  obtain ⟨y1, y2, y3, y4⟩ := y
  rcases Nat.lt_trichotomy a b with c | c | c
  · have := y4 a x1 c x2; omega
  · exact c
  · have := x4 b y1 c y2; omega
def goes (h : Hill) (s : Now) (m : Nat) : Now × Int := (⟨m, (s.ant + 1) % h.needs.length, min (h.over s m) h.most⟩, h.over s m - min (h.over s m) h.most)
def Turn (h : Hill) (s : Now) (r : Now × Int) : Prop := ∃ m, h.Eve s m ∧ r = h.goes s m
theorem turn_uniq {h : Hill} {s : Now} {a b : Now × Int} (x : h.Turn s a) (y : h.Turn s b) : a = b := by
  obtain ⟨m, x, rfl⟩ := x
  obtain ⟨n, y, rfl⟩ := y
  rw [eve_uniq x y]
theorem turn_at {h : Hill} {s : Now} {r : Now × Int} (hm : 0 ≤ h.most) (a : h.At s) (x : h.Turn s r) : h.At r.1 := by
  obtain ⟨m, ⟨x1, x2, x3, x4⟩, rfl⟩ := x
  exact ⟨x2, Nat.mod_lt _ (by have := a.an; omega), Int.le_min.mpr ⟨x3, hm⟩, Int.min_le_right _ _⟩
/-- a row of turns -/
def Rows (h : Hill) : Now → List (Now × Int) → Prop
  | _, [] => True
  | s, r :: l => h.Turn s r ∧ Rows h r.1 l
theorem rows_uniq {h : Hill} : ∀ {l l' : List (Now × Int)} {s : Now}, h.Rows s l → h.Rows s l' → l.length = l'.length → l = l'
  | [], [], _, _, _, _ => rfl
  | [], _ :: _, _, _, _, e => by simp at e
  | _ :: _, [], _, _, _, e => by simp at e
  | a :: l, b :: l', s, x, y, e => by
    obtain rfl := turn_uniq x.1 y.1
    rw [rows_uniq x.2 y.2 (by simpa using e)]
/-- how all stands behind a row -/
def lastOf (s : Now) : List (Now × Int) → Now
  | [] => s
  | r :: l => lastOf r.1 l
theorem rows_at {h : Hill} (hm : 0 ≤ h.most) : ∀ {l : List (Now × Int)} {s : Now}, h.At s → h.Rows s l → h.At (lastOf s l)
  | [], _, a, _ => a
  | r :: l, s, a, x => rows_at (l := l) (s := r.1) hm (turn_at hm a x.1) x.2
theorem rows_mem {h : Hill} (hm : 0 ≤ h.most) : ∀ {l : List (Now × Int)} {s : Now}, h.At s → h.Rows s l → ∀ r ∈ l, h.At r.1
  | [], _, _, _, _, hr => by simp at hr
  | r :: l, s, a, x, q, hq => by
    rcases List.mem_cons.mp hq with rfl | hq
    · exact turn_at hm a x.1
    · exact rows_mem hm (turn_at hm a x.1) x.2 q hq
theorem rows_snoc {h : Hill} : ∀ {l : List (Now × Int)} {s : Now} {r : Now × Int}, h.Rows s l → h.Turn (lastOf s l) r → h.Rows s (l ++ [r])
  | [], _, _, _, y => ⟨y, trivial⟩
  | _ :: _, _, _, x, y => ⟨x.1, rows_snoc x.2 y⟩
theorem last_snoc : ∀ {l : List (Now × Int)} {s : Now} {r : Now × Int}, lastOf s (l ++ [r]) = r.1
  | [], _, _ => rfl
  | _ :: l, _, _ => last_snoc (l := l)
theorem last_take : ∀ {l : List (Now × Int)} {s : Now} {n : Nat} {r : Now × Int}, l[n]? = some r → lastOf s (l.take (n + 1)) = r.1
  | r :: l, s, 0, q, e => by simp at e; subst e; rfl
  | r :: l, s, n + 1, q, e => last_take (l := l) (s := r.1) (by simpa using e)
  | [], _, _, _, e => by simp at e
theorem rows_drop {h : Hill} : ∀ {l : List (Now × Int)} {s : Now} (n : Nat), h.Rows s l → h.Rows (lastOf s (l.take n)) (l.drop n)
  | l, s, 0, x => by simpa [lastOf] using x
  | [], s, n + 1, x => by simp [Rows]
  | r :: l, s, n + 1, x => rows_drop (l := l) (s := r.1) n x.2
theorem rows_take {h : Hill} : ∀ {l : List (Now × Int)} {s : Now} (n : Nat), h.Rows s l → h.Rows s (l.take n)
  | l, s, 0, x => by simp [Rows]
  | [], s, n + 1, x => by simp [Rows]
  | r :: l, s, n + 1, x => ⟨x.1, rows_take (l := l) (s := r.1) n x.2⟩
/-- two that stand one behind the other in a row -/
theorem rows_next {h : Hill} : ∀ {l : List (Now × Int)} {s : Now} {n : Nat} {a b : Now}, h.Rows s l → (s :: l.map (·.1))[n]? = some a → (l.map (·.1))[n]? = some b → ∃ z, h.Turn a (b, z)
  | [], _, _, _, _, _, _, e => by simp at e
  | r :: l, s, 0, a, b, x, e1, e2 => by
    simp at e1 e2
    subst e1 e2
    exact ⟨r.2, x.1⟩
  | r :: l, s, n + 1, a, b, x, e1, e2 => rows_next (l := l) (s := r.1) x.2 (by simpa using e1) (by simpa using e2)
/-- the first evening by which so much was given is the turn's, when the pot lacks -/
theorem eve_dayOf {h : Hill} {s : Now} {m : Nat} (hN : h.Nn) (hL : 0 < h.L) (c : s.pot < h.need s.ant) (x : h.DayOf (h.given s.day + h.need s.ant - s.pot) m) : h.Eve s m := by
  obtain ⟨x1, x2, x3⟩ := x
  have l : s.day ≤ m := by
    rcases Nat.lt_or_ge m s.day with d | d
    · have := given_mono hN hL (Nat.le_of_lt d); omega
    · exact d
  refine ⟨l, x1, by unfold over; omega, fun k _ k2 k3 => ?_⟩
  have := x3 k k2 k3
  unfold over
  omega
theorem eve_now {h : Hill} {s : Now} (a : h.isOpen s.day = true) (c : h.need s.ant ≤ s.pot) : h.Eve s s.day :=
  ⟨Nat.le_refl _, a, by unfold over; omega, fun k k1 k2 _ => by omega⟩
/-- whole years over which the need isn't met -/
theorem eve_skip {h : Hill} {s : Now} {m k : Nat} (hN : h.Nn) (hL : 0 < h.L) (hd : 0 < h.drops) (c : k = 0 ∨ (k + 1 : Int) * h.drops ≤ h.need s.ant - s.pot) (x : h.Eve ⟨s.day + k * h.L, s.ant, s.pot + k * h.drops⟩ m) : h.Eve s m ∧ h.goes ⟨s.day + k * h.L, s.ant, s.pot + k * h.drops⟩ m = h.goes s m := by
  obtain ⟨x1, x2, x3, x4⟩ := x
  have g := given_year hL s.day k (h := h)
  have e : ∀ j, h.over ⟨s.day + k * h.L, s.ant, s.pot + k * h.drops⟩ j = h.over s j := fun j => by
    unfold over
    show s.pot + k * h.drops + h.given j - h.given (s.day + k * h.L) - h.need s.ant = _
    rw [g]
    omega
  refine ⟨⟨Nat.le_trans (Nat.le_add_right _ _) x1, x2, by rw [← e]; exact x3, fun j j1 j2 j3 => ?_⟩, ?_⟩
  · by_cases q : s.day + k * h.L ≤ j
    · rw [← e]; exact x4 j q j2 j3
    · rcases c with rfl | c
      · exact absurd (by omega) q
      · have m := given_mono hN hL (show j ≤ s.day + k * h.L by omega)
        rw [g] at m
        have e2 : ((k : Int) + 1) * h.drops = k * h.drops + h.drops := by rw [Int.add_mul, Int.one_mul]
        rw [e2] at c
        unfold over
        omega
  · unfold goes
    rw [e]
theorem eve_ex {h : Hill} {s : Now} (hN : h.Nn) (hL : 0 < h.L) (hd : 0 < h.drops) (a : h.isOpen s.day = true) : ∃ m, h.Eve s m := by
  by_cases c : s.pot < h.need s.ant
  · obtain ⟨m, x⟩ := dayOf_ex hN hL ⟨_, List.mem_of_getElem? (at_day hL s.day).choose_spec.1, by rw [← (at_day hL s.day).choose_spec.2.2]; exact a⟩ hd (h.given s.day + h.need s.ant - s.pot)
    exact ⟨m, eve_dayOf hN hL c x⟩
  · exact ⟨_, eve_now a (Int.not_lt.mp c)⟩
end Hill
abbrev Now.dat (t : Bool) (s : Now) : PyData := sq t [.int s.day, .int s.ant, .int s.pot]
abbrev rowD (r : Now × Int) : PyData := sq true [r.1.dat true, .int r.2]
end Hz
namespace Hz
open PySem L2
theorem le_wo {B : List Addr} {H H' : Hp} (e : Ex B H H') (h : ∀ b ∈ B, H b = none) : Le H (wo B H') := fun a o q => by
  refine wo_of (fun z => ?_) (e.1 a o (fun z => ?_) q) <;> · rw [h a z] at q; cases q
theorem le_woT {B : List Addr} {H H' : Hp} (e : Le H H') : Le (wo B H) (wo B H') := fun a o q => by
  obtain ⟨n, q⟩ := wo_some q
  exact wo_of n (e a o q)
/-- a value made anew -/
def Fr (K : PySem.W.Frag) (H H' : Hp) (v : V) (d : PyData) : Prop := ∀ B : List Addr, (∀ b ∈ B, H b ≠ none) → Dp K (wo B H') v d
theorem Fr.dp {K : PySem.W.Frag} {H H' : Hp} {v : V} {d : PyData} (h : Fr K H H' v d) : Dp K H' v d := by
  have := h [] (by simp)
  rwa [wo_nil] at this
theorem Fr.le {K : PySem.W.Frag} {H H1 H2 : Hp} {v : V} {d : PyData} (h : Fr K H H1 v d) (e : Le H1 H2) : Fr K H H2 v d := fun B hB => dp_le (le_woT e) _ _ (h B hB)
theorem Fr.back {K : PySem.W.Frag} {H H1 H2 : Hp} {v : V} {d : PyData} (e : Ex [] H H1) (h : Fr K H1 H2 v d) : Fr K H H2 v d := fun B hB => h B fun b hb z => hB b hb (e.free z)
theorem Fr.int {K : PySem.W.Frag} {H H' : Hp} (i : Int) : Fr K H H' (.int i) (.int i) := fun _ _ => .int i
theorem Fr.tup {K : PySem.W.Frag} {H H1 : Hp} {p : Addr} {xs : List V} {ds : List PyData} (hp : H1 p = none) (e : Ex [] H H1) (h : ∀ B : List Addr, (∀ b ∈ B, H b ≠ none) → DpAll K (wo B H1) xs ds) : Fr K H (upd H1 p (.tup xs)) (.ref p) (sq true ds) := fun B hB => by
  have np : p ∉ B := fun z => hB p z (e.free hp)
  exact .tup (SqT.of (wo_of np upd_same)) (dpa_le (le_woT fun a o q => (Ex.new (B := []) hp).1 a o (by simp) q) _ _ (h B hB))
end Hz
set_option Elab.async false
set_option linter.all false
set_option maxRecDepth 100000
set_option maxHeartbeats 2000000
namespace HT
open PySem PySem.Spec PyProof.Rows
section
variable {prog : Program} {w : World} {A : Around} {E : Value → Shared → Prop} {s : Shared}
theorem pick3 (x y z : Value) : ((List.range (Builtin.Slice.slicePlaces (Builtin.Slice.sliceAdjust none none (-1) ((3 : Nat) : Int)).1 (Builtin.Slice.sliceAdjust none none (-1) ((3 : Nat) : Int)).2 (-1))).filterMap fun (k : Nat) => (#[x, y, z] : Array Value)[((Builtin.Slice.sliceAdjust none none (-1) ((3 : Nat) : Int)).1 + (k : Int) * (-1)).toNat]?).toArray = #[z, y, x] := by
  have e1 : (Builtin.Slice.sliceAdjust none none (-1) ((3 : Nat) : Int)).1 = 2 := by decide
  have e2 : Builtin.Slice.slicePlaces (Builtin.Slice.sliceAdjust none none (-1) ((3 : Nat) : Int)).1 (Builtin.Slice.sliceAdjust none none (-1) ((3 : Nat) : Int)).2 (-1) = 3 := by decide
  rw [e2, e1]
  rfl
/-- a tuple of three, backwards -/
theorem back_three {t sl : Addr} {x y z vs : Value} {Q : Value → Shared → Prop} (ht : IsTup s.heap t #[x, y, z]) (hs : s.heap.IsSliceOf sl .none .none vs) (ps : IsPart vs (some (-1)))
    (h : Q (.ref s.heap.objs.size) { s with heap := s.heap.push { cls := .type "tuple", data := .seq #[z, y, x] } }) : wpAny (model prog w) A (getItem (.ref t) (.ref sl)) Q E s := by
  obtain ⟨o, ho, hc, hd⟩ := id hs
  unfold getItem
  try with_reducible refine wpAny_holding ?_
  first | refine wpAny_bind (wpAny_pure ?_) | skip
  refine wpAny_bind (wpAny_sequenceKey ht.typeIs (by decide) ?_)
  refine wpAny_bind (wpAny_callSpecial?_slot (name := Str.ofString "__getitem__") ht.typeIs PyProof.Rows.slot_tuple_getitem (wpAny_call_entry PyProof.Rows.slot_tuple_getitem ht.typeIs entry_tuple_getitem ?_ (args_tuple_getitem _ _)))
  show wpAny _ _ (Builtin.Tuple.tupleItemsOf (.ref t) >>= _) _ _ s
  refine wpAny_bind (tupleItemsOf_ ht (wpAny_bind (wpAny_typeOf (show s.TypeIs (.ref sl) "slice" from ⟨o, ho, hc⟩) ?_)))
  rw [if_pos (by decide)]
  refine wpAny_bind ?_
  unfold Builtin.Slice.sliceApplied Builtin.Slice.sliceFields
  refine wpAny_bind (wpAny_bind (wpAny_field ho hd (x := .none) rfl (wpAny_bind (wpAny_field ho hd (x := .none) rfl (wpAny_bind (wpAny_field ho hd (x := vs) rfl (wpAny_pure ?_)))))))
  refine wpAny_bind (slicePart_ ps ?_)
  show wpAny _ _ (if ((-1 : Int) == 0) = true then _ else _) _ _ s
  rw [if_neg (by decide)]
  refine wpAny_bind (slicePart_ .none (wpAny_bind (slicePart_ .none (wpAny_bind (wpAny_pure (wpAny_pure ?_))))))
  show wpAny _ _ (if ((2 : Int) == 0 && (-1 : Int) == 1 && (3 : Nat) == 3) = true then _ else _) _ _ s
  rw [if_neg (by decide)]
  have fits : sizeOk (.seq #[z, y, x]) := by show 3 ≤ sizeLine; decide
  have e : ((List.range 3).filterMap fun (k : Nat) => (#[x, y, z] : Array Value)[((2 : Int) + (k : Int) * (-1)).toNat]?).toArray = #[z, y, x] := by rfl
  refine wpAny_bind (m := Builtin.Tuple.tupleExact _) ?_
  have go : ∀ xs : Array Value, xs = #[z, y, x] → wpAny (model prog w) A.in1 (Builtin.Tuple.tupleExact xs) (fun u s' => u = .ref s.heap.objs.size ∧ s' = { s with heap := s.heap.push { cls := .type "tuple", data := .seq #[z, y, x] } }) (fun _ _ => False) s := fun xs ex => by
    subst ex
    exact wpAny_newObj_type ⟨rfl, rfl⟩ fits
  refine wpAny_mono (go _ (pick3 x y z)) (fun u s' ⟨e1, e2⟩ => ?_) (fun _ _ f => f.elim)
  subst e1 e2
  first
    | exact wpAny_pure ⟨_, rfl, wpAny_pure h⟩
    | exact wpAny_bind (wpAny_pure (wpAny_pure ⟨_, rfl, wpAny_pure h⟩))
end
end HT
namespace Hz
open PySem PySem.Spec PyProof.Rows L2
section
variable {X : Cx}
def tRevT (K : PySem.W.Frag) (te : TE) : TE := fun σ H Q => te σ H fun v H1 => ∃ a x y z, v = .ref a ∧ SqT K H1 a [x, y, z] ∧ ∀ p, H1 p = none → Q (.ref p) (upd H1 p (.tup [z, y, x]))
theorem pe_revT (K : PySem.W.Frag) {e : Expr} {te : TE} {k : Nat} {p1 p2 p3 pos : Pos} (he : PE X e te) (hK : X.K = K := by rfl) : PE X (.Subscript e (.Slice none none (some (.UnaryOp .USub (.Constant (.int 1) k p1) p2)) p3) pos) (tRevT K te) := by
  subst hK
  refine ⟨fun pins s σ H Q J h => Subscript_ (thn (he.run pins s σ H _ J h) fun v s1 ⟨_, H1, J1, r1, a, x, y, z, ev, hx, q⟩ => ?_)⟩
  subst ev
  cases r1
  have back : PO X (some (.UnaryOp .USub (.Constant (.int 1) k p1) p2)) (tPart (tUn (rU fun i => .int (-i)) (tC (.int 1)))) := po_some (pe_un un_neg pe_int)
  refine wpAny_Slice (thn (po_none.run pins s1 σ H1 (fun o G => o = none ∧ G = H1) J1 ⟨rfl, rfl⟩) fun vl s2 ⟨o2, H2, J2, pl, f2, g2⟩ => ?_)
  subst f2 g2
  refine thn (po_none.run pins s2 σ H2 (fun o G => o = none ∧ G = H2) J2 ⟨rfl, rfl⟩) fun vu s3 ⟨o3, H3, J3, pu, f3, g3⟩ => ?_
  subst f3 g3
  refine thn (back.run pins s3 σ H3 (fun o G => o = some (-1) ∧ G = H3) J3 ⟨1, rfl, -1, rfl, rfl, rfl⟩) fun vs s4 ⟨o4, H4, J4, ps, f4, g4⟩ => ?_
  subst f4 g4
  cases pl
  cases pu
  have J5 : Inv X pins σ H4 { s4 with heap := s4.heap.push { cls := .type "slice", data := .fields #[.none, .none, vs] } } := J4.kept (t' := s4.toks) fun b ob q => Heap.get?_push_of_some _ q
  obtain ⟨its, r, ht, hz⟩ := J5.tuple hx
  obtain ⟨u1, u2, u3, rfl, ru1, ru2, ru3⟩ : ∃ u1 u2 u3, its = [u1, u2, u3] ∧ RelV x u1 ∧ RelV y u2 ∧ RelV z u3 := by
    cases r with | cons a1 r => cases r with | cons a2 r => cases r with | cons a3 r => cases r; exact ⟨_, _, _, rfl, a1, a2, a3⟩
  show wpAny (model X.prog X.w) X.A (subscriptTail e (.Slice none none (some (.UnaryOp .USub (.Constant (.int 1) k p1) p2)) p3) (.ref a) (.ref s4.heap.objs.size)) (EP X pins σ Q) X.xe { s4 with heap := s4.heap.push { cls := .type "slice", data := .fields #[.none, .none, vs] } }
  refine tail_any (ops := [.ref a, .ref s4.heap.objs.size]) ht.typeIs PyProof.Rows.slot_tuple_getitem.lookup ?_ (by with_unfolding_all rfl)
  refine HT.back_three ht (Heap.IsSliceOf.new _ .none .none vs) ps ⟨.ref _, _, J5.laid (t' := s4.toks) (o := .tup [z, y, x]) (fun b ob q => Heap.get?_push_of_some _ q) (Nat.le_refl _) ⟨by show 3 ≤ sizeLine; decide, [u3, u2, u1], .cons ru3 (.cons ru2 (.cons ru1 .nil)), IsTup.new _ _⟩, rfl, q _ (J5.hok.fresh (Nat.le_refl _))⟩
end
end Hz
set_option Elab.async false
set_option linter.all false
set_option maxRecDepth 100000
set_option maxHeartbeats 4000000
namespace Z01
open PySem PySem.Spec PyProof.Rows L2 Hz
def topS (i : Nat) : Stmt := PySem.Challenge.pw_honeyturns_k01_hills_or_not.main.body.getD i (.Pass ⟨0, 0, 0, 0⟩)
abbrev s_is_number : Stmt := topS 1
abbrev N_is_number : List Str := ["thing", "least"]
abbrev P_is_number : List Str := ["thing", "least"]
theorem sc_is_number : FnScope N_is_number P_is_number (defScope s_is_number) := ⟨rfl, rfl, rfl, by decide +kernel, rfl, by decide +kernel, by decide +kernel⟩
abbrev s_is_tuple_of : Stmt := topS 2
abbrev N_is_tuple_of : List Str := ["thing", "many"]
abbrev P_is_tuple_of : List Str := ["thing", "many"]
theorem sc_is_tuple_of : FnScope N_is_tuple_of P_is_tuple_of (defScope s_is_tuple_of) := ⟨rfl, rfl, rfl, by decide +kernel, rfl, by decide +kernel, by decide +kernel⟩
abbrev s_is_day : Stmt := topS 3
abbrev N_is_day : List Str := ["thing"]
abbrev P_is_day : List Str := ["thing"]
theorem sc_is_day : FnScope N_is_day P_is_day (defScope s_is_day) := ⟨rfl, rfl, rfl, by decide +kernel, rfl, by decide +kernel, by decide +kernel⟩
abbrev s_is_year : Stmt := topS 4
abbrev N_is_year : List Str := ["thing", "day"]
abbrev P_is_year : List Str := ["thing"]
theorem sc_is_year : FnScope N_is_year P_is_year (defScope s_is_year) := ⟨rfl, rfl, rfl, by decide +kernel, rfl, by decide +kernel, by decide +kernel⟩
abbrev s_is_ring : Stmt := topS 5
abbrev N_is_ring : List Str := ["thing", "need"]
abbrev P_is_ring : List Str := ["thing"]
theorem sc_is_ring : FnScope N_is_ring P_is_ring (defScope s_is_ring) := ⟨rfl, rfl, rfl, by decide +kernel, rfl, by decide +kernel, by decide +kernel⟩
abbrev s_is_hill : Stmt := topS 6
abbrev N_is_hill : List Str := ["thing"]
abbrev P_is_hill : List Str := ["thing"]
theorem sc_is_hill : FnScope N_is_hill P_is_hill (defScope s_is_hill) := ⟨rfl, rfl, rfl, by decide +kernel, rfl, by decide +kernel, by decide +kernel⟩
abbrev s__law_box : Stmt := topS 8
abbrev N__law_box : List Str := ["_law_script", "_law_k", "_law_cell"]
abbrev P__law_box : List Str := ["_law_script", "_law_k"]
theorem sc__law_box : FnScope N__law_box P__law_box (defScope s__law_box) := ⟨rfl, rfl, rfl, by decide +kernel, rfl, by decide +kernel, by decide +kernel⟩
abbrev s__law_take : Stmt := topS 9
abbrev N__law_take : List Str := ["_law_box_here", "_law_size", "_law_found", "_law_stir", "_law_once", "_law_twice"]
abbrev P__law_take : List Str := ["_law_box_here", "_law_size"]
theorem sc__law_take : FnScope N__law_take P__law_take (defScope s__law_take) := ⟨rfl, rfl, rfl, by decide +kernel, rfl, by decide +kernel, by decide +kernel⟩
abbrev s__law_folded : Stmt := topS 10
abbrev N__law_folded : List Str := ["_law_script", "_law_size", "_law_cells", "_law_k", "_law_cell"]
abbrev P__law_folded : List Str := ["_law_script", "_law_size"]
theorem sc__law_folded : FnScope N__law_folded P__law_folded (defScope s__law_folded) := ⟨rfl, rfl, rfl, by decide +kernel, rfl, by decide +kernel, by decide +kernel⟩
abbrev s__law_same : Stmt := topS 11
abbrev N__law_same : List Str := ["_law_found", "_law_wanted_here", "_law_mine", "_law_its"]
abbrev P__law_same : List Str := ["_law_found", "_law_wanted_here"]
theorem sc__law_same : FnScope N__law_same P__law_same (defScope s__law_same) := ⟨rfl, rfl, rfl, by decide +kernel, rfl, by decide +kernel, by decide +kernel⟩
abbrev s__law_of : Stmt := topS 12
abbrev N__law_of : List Str := ["_law_box_here", "_law_some"]
abbrev P__law_of : List Str := ["_law_box_here", "_law_some"]
theorem sc__law_of : FnScope N__law_of P__law_of (defScope s__law_of) := ⟨rfl, rfl, rfl, by decide +kernel, rfl, by decide +kernel, by decide +kernel⟩
abbrev s__law_nest : Stmt := topS 13
abbrev N__law_nest : List Str := ["_law_box_here", "_law_length", "_law_size", "_law_wide", "_law_year", "_law_k", "_law_drip", "_law_wet", "_law_lit", "_law_whole", "_law_wants", "_law_cap", "_law_pair"]
abbrev P__law_nest : List Str := ["_law_box_here", "_law_length", "_law_size", "_law_wide"]
theorem sc__law_nest : FnScope N__law_nest P__law_nest (defScope s__law_nest) := ⟨rfl, rfl, rfl, by decide +kernel, rfl, by decide +kernel, by decide +kernel⟩
abbrev s__law_is_count : Stmt := topS 14
abbrev N__law_is_count : List Str := ["_law_matter"]
abbrev P__law_is_count : List Str := ["_law_matter"]
theorem sc__law_is_count : FnScope N__law_is_count P__law_is_count (defScope s__law_is_count) := ⟨rfl, rfl, rfl, by decide +kernel, rfl, by decide +kernel, by decide +kernel⟩
abbrev s__law_wanted : Stmt := topS 15
abbrev N__law_wanted : List Str := ["_law_matter", "_law_pair", "_law_want"]
abbrev P__law_wanted : List Str := ["_law_matter"]
theorem sc__law_wanted : FnScope N__law_wanted P__law_wanted (defScope s__law_wanted) := ⟨rfl, rfl, rfl, by decide +kernel, rfl, by decide +kernel, by decide +kernel⟩
abbrev s__law_odd : Stmt := topS 16
abbrev N__law_odd : List Str := ["_law_box_here", "_law_matter", "_law_some"]
abbrev P__law_odd : List Str := ["_law_box_here", "_law_matter"]
theorem sc__law_odd : FnScope N__law_odd P__law_odd (defScope s__law_odd) := ⟨rfl, rfl, rfl, by decide +kernel, rfl, by decide +kernel, by decide +kernel⟩
abbrev s__law_bent : Stmt := topS 17
abbrev N__law_bent : List Str := ["_law_box_here", "_law_matter", "_law_way", "_law_at", "_law_some"]
abbrev P__law_bent : List Str := ["_law_box_here", "_law_matter"]
theorem sc__law_bent : FnScope N__law_bent P__law_bent (defScope s__law_bent) := ⟨rfl, rfl, rfl, by decide +kernel, rfl, by decide +kernel, by decide +kernel⟩
abbrev s__law_right : Stmt := topS 18
abbrev N__law_right : List Str := ["_law_box_here", "_law_turn_on", "_law_nest_here", "_law_year", "_law_wants", "_law_cap", "_law_things", "_law_again", "_law_bent_here", "_law_matter", "_law_kept", "_law_due", "_law_drip", "_law_lit"]
abbrev P__law_right : List Str := ["_law_box_here"]
theorem sc__law_right : FnScope N__law_right P__law_right (defScope s__law_right) := ⟨rfl, rfl, rfl, by decide +kernel, rfl, by decide +kernel, by decide +kernel⟩
abbrev s_law : Stmt := topS 19
abbrev N_law : List Str := ["_law_script", "_law_cells", "_law_k"]
abbrev P_law : List Str := ["_law_script"]
theorem sc_law : FnScope N_law P_law (defScope s_law) := ⟨rfl, rfl, rfl, by decide +kernel, rfl, by decide +kernel, by decide +kernel⟩
structure Txt (K : PySem.W.Frag) (mg : Str → Option Value) where
  a_is_number : Addr
  d_is_number : FuncData
  F_is_number : Fun K "is_number" "is_number" s_is_number a_is_number d_is_number
  m_is_number : mg "is_number" = some (.ref a_is_number)
  a_is_tuple_of : Addr
  d_is_tuple_of : FuncData
  F_is_tuple_of : Fun K "is_tuple_of" "is_tuple_of" s_is_tuple_of a_is_tuple_of d_is_tuple_of
  m_is_tuple_of : mg "is_tuple_of" = some (.ref a_is_tuple_of)
  a_is_day : Addr
  d_is_day : FuncData
  F_is_day : Fun K "is_day" "is_day" s_is_day a_is_day d_is_day
  m_is_day : mg "is_day" = some (.ref a_is_day)
  a_is_year : Addr
  d_is_year : FuncData
  F_is_year : Fun K "is_year" "is_year" s_is_year a_is_year d_is_year
  m_is_year : mg "is_year" = some (.ref a_is_year)
  a_is_ring : Addr
  d_is_ring : FuncData
  F_is_ring : Fun K "is_ring" "is_ring" s_is_ring a_is_ring d_is_ring
  m_is_ring : mg "is_ring" = some (.ref a_is_ring)
  a_is_hill : Addr
  d_is_hill : FuncData
  F_is_hill : Fun K "is_hill" "is_hill" s_is_hill a_is_hill d_is_hill
  m_is_hill : mg "is_hill" = some (.ref a_is_hill)
  a__law_box : Addr
  d__law_box : FuncData
  F__law_box : Fun K "_law_box" "_law_box" s__law_box a__law_box d__law_box
  m__law_box : mg "_law_box" = some (.ref a__law_box)
  a__law_take : Addr
  d__law_take : FuncData
  F__law_take : Fun K "_law_take" "_law_take" s__law_take a__law_take d__law_take
  m__law_take : mg "_law_take" = some (.ref a__law_take)
  a__law_folded : Addr
  d__law_folded : FuncData
  F__law_folded : Fun K "_law_folded" "_law_folded" s__law_folded a__law_folded d__law_folded
  m__law_folded : mg "_law_folded" = some (.ref a__law_folded)
  a__law_same : Addr
  d__law_same : FuncData
  F__law_same : Fun K "_law_same" "_law_same" s__law_same a__law_same d__law_same
  m__law_same : mg "_law_same" = some (.ref a__law_same)
  a__law_of : Addr
  d__law_of : FuncData
  F__law_of : Fun K "_law_of" "_law_of" s__law_of a__law_of d__law_of
  m__law_of : mg "_law_of" = some (.ref a__law_of)
  a__law_nest : Addr
  d__law_nest : FuncData
  F__law_nest : Fun K "_law_nest" "_law_nest" s__law_nest a__law_nest d__law_nest
  m__law_nest : mg "_law_nest" = some (.ref a__law_nest)
  a__law_is_count : Addr
  d__law_is_count : FuncData
  F__law_is_count : Fun K "_law_is_count" "_law_is_count" s__law_is_count a__law_is_count d__law_is_count
  m__law_is_count : mg "_law_is_count" = some (.ref a__law_is_count)
  a__law_wanted : Addr
  d__law_wanted : FuncData
  F__law_wanted : Fun K "_law_wanted" "_law_wanted" s__law_wanted a__law_wanted d__law_wanted
  m__law_wanted : mg "_law_wanted" = some (.ref a__law_wanted)
  a__law_odd : Addr
  d__law_odd : FuncData
  F__law_odd : Fun K "_law_odd" "_law_odd" s__law_odd a__law_odd d__law_odd
  m__law_odd : mg "_law_odd" = some (.ref a__law_odd)
  a__law_bent : Addr
  d__law_bent : FuncData
  F__law_bent : Fun K "_law_bent" "_law_bent" s__law_bent a__law_bent d__law_bent
  m__law_bent : mg "_law_bent" = some (.ref a__law_bent)
  a__law_right : Addr
  d__law_right : FuncData
  F__law_right : Fun K "_law_right" "_law_right" s__law_right a__law_right d__law_right
  m__law_right : mg "_law_right" = some (.ref a__law_right)
  a_law : Addr
  d_law : FuncData
  F_law : Fun K "law" "law" s_law a_law d_law
  m_law : mg "law" = some (.ref a_law)
  z_len : mg "len" = none
  z_abs : mg "abs" = none
  z_divmod : mg "divmod" = none
  z_sum : mg "sum" = none
  z_all : mg "all" = none
  z_any : mg "any" = none
  z_int : mg "int" = none
  z_bool : mg "bool" = none
  z_list : mg "list" = none
  z_tuple : mg "tuple" = none
  z_str : mg "str" = none
  z_repr : mg "repr" = none
  z_max : mg "max" = none
  z_isinstance : mg "isinstance" = none
  z_range : mg "range" = none
  z_enumerate : mg "enumerate" = none
  z_zip : mg "zip" = none
section
variable {K : PySem.W.Frag} {mg : Str → Option Value}
theorem Txt.k_is_number (T : Txt K mg) : PySem.W.keepIn K (.ref T.a_is_number) = true := T.F_is_number.kp
theorem Txt.b_is_number (T : Txt K mg) : Binds K T.d_is_number P_is_number [] := T.F_is_number.binds fun _ _ _ _ _ _ us hl => match us, hl with | [_, _], _ => rfl
theorem Txt.k_is_tuple_of (T : Txt K mg) : PySem.W.keepIn K (.ref T.a_is_tuple_of) = true := T.F_is_tuple_of.kp
theorem Txt.b_is_tuple_of (T : Txt K mg) : Binds K T.d_is_tuple_of P_is_tuple_of [] := T.F_is_tuple_of.binds fun _ _ _ _ _ _ us hl => match us, hl with | [_, _], _ => rfl
theorem Txt.k_is_day (T : Txt K mg) : PySem.W.keepIn K (.ref T.a_is_day) = true := T.F_is_day.kp
theorem Txt.b_is_day (T : Txt K mg) : Binds K T.d_is_day P_is_day [] := T.F_is_day.binds fun _ _ _ _ _ _ us hl => match us, hl with | [_], _ => rfl
theorem Txt.k_is_year (T : Txt K mg) : PySem.W.keepIn K (.ref T.a_is_year) = true := T.F_is_year.kp
theorem Txt.b_is_year (T : Txt K mg) : Binds K T.d_is_year P_is_year [] := T.F_is_year.binds fun _ _ _ _ _ _ us hl => match us, hl with | [_], _ => rfl
theorem Txt.k_is_ring (T : Txt K mg) : PySem.W.keepIn K (.ref T.a_is_ring) = true := T.F_is_ring.kp
theorem Txt.b_is_ring (T : Txt K mg) : Binds K T.d_is_ring P_is_ring [] := T.F_is_ring.binds fun _ _ _ _ _ _ us hl => match us, hl with | [_], _ => rfl
theorem Txt.k_is_hill (T : Txt K mg) : PySem.W.keepIn K (.ref T.a_is_hill) = true := T.F_is_hill.kp
theorem Txt.b_is_hill (T : Txt K mg) : Binds K T.d_is_hill P_is_hill [] := T.F_is_hill.binds fun _ _ _ _ _ _ us hl => match us, hl with | [_], _ => rfl
theorem Txt.k__law_box (T : Txt K mg) : PySem.W.keepIn K (.ref T.a__law_box) = true := T.F__law_box.kp
theorem Txt.b__law_box (T : Txt K mg) : Binds K T.d__law_box P__law_box [] := T.F__law_box.binds fun _ _ _ _ _ _ us hl => match us, hl with | [_, _], _ => rfl
theorem Txt.k__law_take (T : Txt K mg) : PySem.W.keepIn K (.ref T.a__law_take) = true := T.F__law_take.kp
theorem Txt.b__law_take (T : Txt K mg) : Binds K T.d__law_take P__law_take [] := T.F__law_take.binds fun _ _ _ _ _ _ us hl => match us, hl with | [_, _], _ => rfl
theorem Txt.k__law_folded (T : Txt K mg) : PySem.W.keepIn K (.ref T.a__law_folded) = true := T.F__law_folded.kp
theorem Txt.b__law_folded (T : Txt K mg) : Binds K T.d__law_folded P__law_folded [] := T.F__law_folded.binds fun _ _ _ _ _ _ us hl => match us, hl with | [_, _], _ => rfl
theorem Txt.k__law_same (T : Txt K mg) : PySem.W.keepIn K (.ref T.a__law_same) = true := T.F__law_same.kp
theorem Txt.b__law_same (T : Txt K mg) : Binds K T.d__law_same P__law_same [] := T.F__law_same.binds fun _ _ _ _ _ _ us hl => match us, hl with | [_, _], _ => rfl
theorem Txt.k__law_of (T : Txt K mg) : PySem.W.keepIn K (.ref T.a__law_of) = true := T.F__law_of.kp
theorem Txt.b__law_of (T : Txt K mg) : Binds K T.d__law_of P__law_of [] := T.F__law_of.binds fun _ _ _ _ _ _ us hl => match us, hl with | [_, _], _ => rfl
theorem Txt.k__law_nest (T : Txt K mg) : PySem.W.keepIn K (.ref T.a__law_nest) = true := T.F__law_nest.kp
theorem Txt.b__law_nest (T : Txt K mg) : Binds K T.d__law_nest P__law_nest [] := T.F__law_nest.binds fun _ _ _ _ _ _ us hl => match us, hl with | [_, _, _, _], _ => rfl
theorem Txt.k__law_is_count (T : Txt K mg) : PySem.W.keepIn K (.ref T.a__law_is_count) = true := T.F__law_is_count.kp
theorem Txt.b__law_is_count (T : Txt K mg) : Binds K T.d__law_is_count P__law_is_count [] := T.F__law_is_count.binds fun _ _ _ _ _ _ us hl => match us, hl with | [_], _ => rfl
theorem Txt.k__law_wanted (T : Txt K mg) : PySem.W.keepIn K (.ref T.a__law_wanted) = true := T.F__law_wanted.kp
theorem Txt.b__law_wanted (T : Txt K mg) : Binds K T.d__law_wanted P__law_wanted [] := T.F__law_wanted.binds fun _ _ _ _ _ _ us hl => match us, hl with | [_], _ => rfl
theorem Txt.k__law_odd (T : Txt K mg) : PySem.W.keepIn K (.ref T.a__law_odd) = true := T.F__law_odd.kp
theorem Txt.b__law_odd (T : Txt K mg) : Binds K T.d__law_odd P__law_odd [] := T.F__law_odd.binds fun _ _ _ _ _ _ us hl => match us, hl with | [_, _], _ => rfl
theorem Txt.k__law_bent (T : Txt K mg) : PySem.W.keepIn K (.ref T.a__law_bent) = true := T.F__law_bent.kp
theorem Txt.b__law_bent (T : Txt K mg) : Binds K T.d__law_bent P__law_bent [] := T.F__law_bent.binds fun _ _ _ _ _ _ us hl => match us, hl with | [_, _], _ => rfl
theorem Txt.k__law_right (T : Txt K mg) : PySem.W.keepIn K (.ref T.a__law_right) = true := T.F__law_right.kp
theorem Txt.b__law_right (T : Txt K mg) : Binds K T.d__law_right P__law_right [] := T.F__law_right.binds fun _ _ _ _ _ _ us hl => match us, hl with | [_], _ => rfl
theorem Txt.k_law (T : Txt K mg) : PySem.W.keepIn K (.ref T.a_law) = true := T.F_law.kp
theorem Txt.b_law (T : Txt K mg) : Binds K T.d_law P_law [] := T.F_law.binds fun _ _ _ _ _ _ us hl => match us, hl with | [_], _ => rfl
def kg_is_hill_thing {α : Type} : List α → List α → List α
  | [], [a0] => [a0]
  | _, _ => []
theorem Txt.kb_is_hill_thing (T : Txt K mg) : KBinds K T.d_is_hill P_is_hill ["thing"] kg_is_hill_thing kg_is_hill_thing := by
  obtain ⟨oc, od, kV, doc, pm, an, cdv, ct, osl, e, lk, hcd⟩ := T.F_is_hill.ex
  refine ⟨fun s us ws _ hl => ?_, fun {vs us zs ws} r rz => ?_⟩
  · match us, ws, hl with
    | [], [a0], _ => rw [e]; exact .of_eq rfl
  · exact match vs, us, zs, ws, r, rz with
    | _, _, _, _, .nil, .cons r0 .nil => .cons r0 .nil
    | _, _, _, _, .nil, .nil => .nil
    | _, _, _, _, .nil, .cons _ (.cons _ _) => .nil
    | _, _, _, _, .cons _ _, _ => .nil
end

end Z01
set_option Elab.async false
set_option linter.all false
set_option maxRecDepth 100000
set_option maxHeartbeats 4000000
namespace Z01
open PySem PySem.Spec PyProof.Rows L2 Hz
section
variable {P : Program} {w : World} {K : PySem.W.Frag} {mg : Str → Option Value} {base : Heap}
local macro_rules | `(tactic| walk_at "go") => `(tactic| repeat (first | refine ⟨_, rfl, ?_⟩ | refine ⟨_, _, rfl, rfl, ?_⟩ | refine ⟨_, _, rfl, .inl (by assumption), ?_⟩ | refine ⟨(by show (0 : Int) < _; first | decide | omega), ?_⟩ | refine ⟨(by first | exact Or.inl ⟨by decide, by decide⟩ | exact Or.inr ⟨by decide, by decide⟩ | exact Or.inl ⟨by omega, by omega⟩ | exact Or.inr ⟨by omega, by omega⟩), ?_⟩ | refine ⟨divw_of (by decide) (by decide), ?_⟩ | refine ⟨⟨by decide, by decide, by decide⟩, ?_⟩ | refine Or.inr ⟨_, rfl, ?_⟩ | refine z_ixL (by assumption) rfl ?_ | refine z_ixL upd_same rfl ?_ | refine ⟨_, _, _, _, rfl, rfl, by assumption, rfl, ?_⟩))
/-- a new box -/
def spBox (K : PySem.W.Frag) : Sp := fun vs H Q _ => ∃ (a : Addr) (ns : List Int) (k : Nat), vs = [.ref a, .int k] ∧ SqL K H a (ns.map V.int) ∧ k < 64 ∧
  ∀ p H', H p = none → Ex [] H H' → Bx p 0 H' → Q (.ref p) H'
theorem ok_box (T : Txt K mg) : FnOk P w K mg base CX0 1 T.a__law_box T.d__law_box P__law_box (spBox K) := by
  have nd := sc__law_box.nd
  refine T.F__law_box.ok sc__law_box (fun vs H Q E h => ?_) (fun cdv A outer s H vs Q E hr h => ?_)
  · obtain ⟨a, ns, k, rfl, _⟩ := h
    rfl
  · obtain ⟨a, ns, k, rfl, hS, hk, q⟩ := h
    refine ⟨_, (pss_cons (ps_set (i := 2) nd rfl (Or.inl rfl) (pe_ifExp (pt_cmpR op_lt (pv 1) (pe_callB (lenK K) (by rfl) T.z_len (by decide +kernel) (pa_cons (pv 0) pa_nil)) (nomark _)) (pe_ix (ixK K) (pv 0) (pv 1) (fun _ _ => rfl)) pe_int))
      (pss_one (ps_ret (pe_lst (pa_cons (pe_op op_mul (pe_callB call_abs (by rfl) T.z_abs (by decide +kernel) (pa_cons (pv 2) pa_nil)) (pe_callTy call_int1 (by rfl) T.z_int (by decide +kernel) (pa_cons (pe_cmpR op_ge (pe_callB call_abs (by rfl) T.z_abs (by decide +kernel) (pa_cons (pv 2) pa_nil)) (pe_op op_pow pe_int pe_int) (nomark _)) pa_nil))) (pa_cons (pe_op op_mod (pe_op op_mul (pe_op op_add (pe_op op_add (pe_op op_mod (pv 2) pe_int) (pe_op op_mul pe_int (pv 1))) pe_int) pe_int) pe_int) (pa_cons pe_int pa_nil))))))), ?_⟩
    have fin : ∀ (c : Int) (b : Bool) (p : Addr), H p = none → Q (.ref p) (upd H p (.lst [.int ((if c < 0 then -c else c) * (if b = true then 1 else 0)), .int ((c % 2147483629 + 15485863 * k + 43) * 48271 % 2147483647), .int 0])) := fun c b p hp => by
      refine q p _ hp (Ex.new hp) ⟨_, _, _, upd_same, ?_, by omega, by omega, by omega, by omega⟩
      cases b <;> simp <;> split <;> omega
    walk_at "go"
    refine ite2 (fun c => ?_) (fun c => ?_)
    · have c' : k < ns.length := by
        have := of_decide_eq_true c
        rw [List.length_map] at this
        omega
      walk_at "go"
      refine z_ix (.inl hS) (v := .int ns[k]) (atI_nat (by rw [List.getElem?_map, List.getElem?_eq_getElem c'] <;> rfl)) ?_
      walk_at "go"
      exact ⟨(by show 3 ≤ sizeLine; decide), fun p hp => fin _ _ p hp⟩
    · walk_at "go"
      exact ⟨(by show 3 ≤ sizeLine; decide), fun p hp => fin 0 _ p hp⟩
/-- a number below size out of the box -/
def spTake (N : Nat) : Sp := fun vs H Q _ => ∃ (b : Addr) (size : Int) (n : Nat), vs = [.ref b, .int size] ∧ Bx b n H ∧ n + 2 ^ (N + 1) ≤ 2 ^ 40 ∧ 1 ≤ size ∧ size ≤ (10 ^ 7) ^ (N + 1) ∧ N ≤ 4 ∧
  ∀ r H', 0 ≤ r → r < size → Ex [b] H H' → Bx b (n + 2 ^ N) H' → Q (.int r) H'
theorem ok_take_one (T : Txt K mg) (N : Nat) (sp' : Sp) (G__law_take : FnOk P w K mg base CX0 N T.a__law_take T.d__law_take P__law_take sp') (hsp : N = 0 ∨ ∃ M, N = M + 1 ∧ sp' = spTake M) :
    FnOk P w K mg base CX0 (N + 1) T.a__law_take T.d__law_take P__law_take (spTake N) := by
  have nd := sc__law_take.nd
  refine T.F__law_take.ok sc__law_take (fun vs H Q E h => ?_) (fun cdv A outer s H vs Q E hr h => ?_)
  · obtain ⟨b, size, n, rfl, _⟩ := h
    rfl
  · obtain ⟨b, size, n, rfl, hB, hn, h1, h2, hN, q⟩ := h
    have hr__law_take := hr
    have h60 : size ≤ 10 ^ 60 := by
      have e : ((10 : Int) ^ 7) ^ (N + 1) ≤ 10 ^ 60 := by
        have : N = 0 ∨ N = 1 ∨ N = 2 ∨ N = 3 ∨ N = 4 := by omega
        rcases this with rfl | rfl | rfl | rfl | rfl <;> decide
      omega
    have hp1 : 1 ≤ 2 ^ N := Nat.one_le_two_pow
    have hB0 := hB
    obtain ⟨x, y, c, hb, hx, hy0, hy1, hc0, hc1⟩ := hB
    refine ⟨_, (pss_cons (ps_if (pt_cmpR op_gt (pe_ix (ixK K) (pv 0) pe_int (fun _ _ => rfl)) pe_int (nomark _)) (pss_cons (ps_asg (pe_callB call_divmodW (by rfl) T.z_divmod (by decide +kernel) (pa_cons (pe_ix (ixK K) (pv 0) pe_int (fun _ _ => rfl)) (pa_cons (pv 1) pa_nil))) (pg_tupK K 2 (by rfl) (pgs_cons (pg_sub (pv 0) pe_int set_list) (pgs_cons (pg_name (i := 2) nd rfl (Or.inl rfl)) pgs_nil))))
      (pss_one (ps_ret (pv 2)))) pss_nil)
      (pss_cons (ps_if (pt_cmpR op_gt (pv 1) (pe_op op_pow pe_int pe_int) (nomark _)) (pss_one (ps_ret (pe_op op_mod (pe_op op_add (pe_call G__law_take hr__law_take (by rfl) T.m__law_take T.k__law_take T.b__law_take .nil pass0 (pa_cons (pv 0) (pa_cons (pe_op op_pow pe_int pe_int) pa_nil))) (pe_op op_mul (pe_op op_pow pe_int pe_int) (pe_call G__law_take hr__law_take (by rfl) T.m__law_take T.k__law_take T.b__law_take .nil pass0 (pa_cons (pv 0) (pa_cons (pe_op op_add (pe_op op_fdivW (pe_op op_sub (pv 1) pe_int) (pe_op op_pow pe_int pe_int)) pe_int) pa_nil))))) (pv 1)))) pss_nil)
      (pss_cons (ps_asg (pe_op op_add (pe_ix (ixK K) (pv 0) pe_int (fun _ _ => rfl)) pe_int) (pg_sub (pv 0) pe_int set_list))
      (pss_cons (ps_set (i := 3) nd rfl (Or.inl rfl) (pe_op op_add pe_int (pe_op op_mul (pe_ix (ixK K) (pv 0) pe_int (fun _ _ => rfl)) (pe_ix (ixK K) (pv 0) pe_int (fun _ _ => rfl)))))
      (pss_cons (ps_set (i := 4) nd rfl (Or.inl rfl) (pe_op op_mod (pe_op op_mul (pe_op op_add (pe_ix (ixK K) (pv 0) pe_int (fun _ _ => rfl)) (pe_op op_mul pe_int (pe_ix (ixK K) (pv 0) pe_int (fun _ _ => rfl)))) (pv 3)) pe_int))
      (pss_cons (ps_set (i := 5) nd rfl (Or.inl rfl) (pe_op op_mod (pe_op op_add (pe_op op_mul (pv 4) (pe_op op_add (pe_op op_mod (pv 4) pe_int) pe_int)) (pe_ix (ixK K) (pv 0) pe_int (fun _ _ => rfl))) pe_int))
      (pss_one (ps_ret (pe_op op_mod (pe_op op_fdivW (pe_op op_mod (pe_op op_mul (pv 5) (pe_op op_add (pe_op op_mod (pv 5) pe_int) pe_int)) pe_int) pe_int) (pv 1)))))))))), ?_⟩
    walk_at "go"
    refine ite2 (fun c1 => ?_) (fun c1 => ?_)
    · have x0 : 0 < x := of_decide_eq_true c1
      walk_at "go"
      refine ⟨_, _, rfl, divp_of (by omega) h60, fun p hp => ?_⟩
      have hbp : b ≠ p := ne_of_none hb hp
      refine ⟨p, _, rfl, SqT.of upd_same, rfl, _, _, rfl, _, rfl, b, _, _, 0, rfl, rfl, (by rw [upd_ne hbp]; exact hb), rfl, ?_⟩
      refine ⟨_, _, rfl, rfl, ?_⟩
      walk_at "go"
      refine q _ _ (Int.emod_nonneg _ (by omega)) (Int.emod_lt_of_pos _ (by omega)) ((Ex.new hp).trans (Ex.mut (by simp))) ⟨_, _, _, upd_same, ?_, hy0, hy1, hc0, by omega⟩
      exact Int.ediv_nonneg hx (by omega)
    · have x0 : x = 0 := by
        have := of_decide_eq_false (Bool.eq_false_iff.mpr c1)
        omega
      walk_at "go"
      refine ite2 (fun c2 => ?_) (fun c2 => ?_)
      · have s7 : 10 ^ 7 < size := of_decide_eq_true c2
        rcases hsp with rfl | ⟨M, rfl, rfl⟩
        · exfalso
          have : size ≤ 10 ^ 7 := h2
          omega
        · have e2 : 2 ^ (M + 1) = 2 * 2 ^ M := by rw [Nat.pow_succ]; omega
          have e3 : 2 ^ (M + 1 + 1) = 4 * 2 ^ M := by rw [Nat.pow_succ, Nat.pow_succ]; omega
          have hM : 1 ≤ 2 ^ M := Nat.one_le_two_pow
          have big : (10 : Int) ^ 7 ≤ (10 ^ 7) ^ (M + 1) := by
            have : M = 0 ∨ M = 1 ∨ M = 2 ∨ M = 3 := by omega
            rcases this with rfl | rfl | rfl | rfl <;> decide
          have e4 : ((10 : Int) ^ 7) ^ (M + 1 + 1) = (10 ^ 7) ^ (M + 1) * 10 ^ 7 := Int.pow_succ ..
          walk_at "go"
          refine ⟨b, _, n, rfl, hB0, by omega, (by decide), big, by omega, fun r1 H1 r10 r11 x1 B1 => ?_⟩
          walk_at "go"
          refine ⟨b, _, n + 2 ^ M, rfl, B1, by omega, ?_, ?_, by omega, fun r2 H2 r20 r21 x2 B2 => ?_⟩
          · have := Int.ediv_nonneg (show (0 : Int) ≤ size - 1 by omega) (show (0 : Int) ≤ 10 ^ Int.toNat 7 by decide)
            omega
          · have t7 : (10 : Int) ^ Int.toNat 7 = 10000000 := by decide
            have t8 : (10 : Int) ^ 7 = 10000000 := by decide
            rw [e4, t8] at h2
            rw [t7, t8]
            generalize ((10000000 : Int)) ^ (M + 1) = z at h2 ⊢
            omega
          walk_at "go"
          refine q _ _ (Int.emod_nonneg _ (by omega)) (Int.emod_lt_of_pos _ (by omega)) (x1.trans x2) (B2.mono (by omega))
      · have hn40 : n ≤ 1099511627776 := by omega
        walk_at "go"
        refine q _ _ (Int.emod_nonneg _ (by omega)) (Int.emod_lt_of_pos _ (by omega)) (Ex.mut (by simp)) ⟨_, _, _, upd_same, hx, hy0, hy1, by omega, by omega⟩
theorem ok_take (T : Txt K mg) : ∀ N, FnOk P w K mg base CX0 (N + 1) T.a__law_take T.d__law_take P__law_take (spTake N)
  | 0 => ok_take_one T 0 (fun _ _ _ _ => False) ⟨fun _ _ _ _ h => h.elim, fun _ _ _ _ _ _ _ _ _ _ _ _ _ h => h.elim⟩ (.inl rfl)
  | N + 1 => ok_take_one T (N + 1) (spTake N) (ok_take T N) (.inr ⟨N, rfl, rfl⟩)
def spT : Sp := fun vs H Q _ => ∃ (b : Addr) (size : Int) (n : Nat), vs = [.ref b, .int size] ∧ Bx b n H ∧ n ≤ 10 ^ 12 ∧ 1 ≤ size ∧ size ≤ 10 ^ 35 ∧
  ∀ r H', 0 ≤ r → r < size → Ex [b] H H' → Bx b (n + 16) H' → Q (.int r) H'
theorem ok_T (T : Txt K mg) : FnOk P w K mg base CX0 5 T.a__law_take T.d__law_take P__law_take spT := by
  refine fnOk_weak (ok_take T 4) fun vs H Q E h => ?_
  obtain ⟨b, size, n, rfl, hB, hn, h1, h2, q⟩ := h
  exact ⟨b, size, n, rfl, hB, (by have : n ≤ 1000000000000 := hn; omega), h1, h2, Nat.le_refl _, q⟩
/-- one of some things -/
def spOf (K : PySem.W.Frag) : Sp := fun vs H Q _ => ∃ (b a : Addr) (xs : List V) (n : Nat), vs = [.ref b, .ref a] ∧ Bx b n H ∧ n ≤ 10 ^ 12 ∧ Sq K (wo [b] H) a xs ∧ 1 ≤ xs.length ∧ xs.length ≤ 1000 ∧
  ∀ v H', v ∈ xs → Ex [b] H H' → Bx b (n + 16) H' → Q v H'
theorem ok_of (T : Txt K mg) : FnOk P w K mg base CX0 6 T.a__law_of T.d__law_of P__law_of (spOf K) := by
  have nd := sc__law_of.nd
  have G__law_take := ok_T (P := P) (w := w) (base := base) T
  refine T.F__law_of.ok sc__law_of (fun vs H Q E h => ?_) (fun cdv A outer s H vs Q E hr h => ?_)
  · obtain ⟨b, a, xs, n, rfl, _⟩ := h
    rfl
  · obtain ⟨b, a, xs, n, rfl, hB, hn, hS, l1, l2, q⟩ := h
    have hr__law_take := hr
    refine ⟨_, (pss_one (ps_ret (pe_ix (ixK K) (pv 1) (pe_call G__law_take hr__law_take (by rfl) T.m__law_take T.k__law_take T.b__law_take .nil pass0 (pa_cons (pv 0) (pa_cons (pe_callB (lenK K) (by rfl) T.z_len (by decide +kernel) (pa_cons (pv 1) pa_nil)) pa_nil))) (fun _ _ => rfl)))), ?_⟩
    have hS' : Sq K H a xs := le_s (wo_le _ _) hS
    refine ⟨_, rfl, _, rfl, _, rfl, _, _, rfl, hS', b, _, n, rfl, hB, hn, by omega, by omega, fun r H' r0 r1 e1 B1 => ?_⟩
    have hr' : r.toNat < xs.length := by omega
    have hS1 : Sq K H' a xs := le_s (wo_le _ _) (le_s e1.le hS)
    have er : r = ((r.toNat : Nat) : Int) := by omega
    have ea : atI xs ((r.toNat : Nat) : Int) = some xs[r.toNat] := atI_nat (List.getElem?_eq_getElem hr')
    rw [← er] at ea
    exact z_ix hS1 ea (q _ H' (List.getElem_mem _) e1 B1)
/-- the script's numbers, folded -/
def spFolded (K : PySem.W.Frag) : Sp := fun vs H Q _ => ∃ (a : Addr) (ns : List Int) (sz : Nat), vs = [.ref a, .int sz] ∧ SqL K H a (ns.map V.int) ∧ ns.length ≤ 63 ∧ 1 ≤ sz ∧ sz ≤ 3 ∧
  ∀ p H' (ms : List Int), H p = none → Ex [] H H' → H' p = some (.lst (ms.map V.int)) → ms.length ≤ sz → Q (.ref p) H'
theorem ok_folded (T : Txt K mg) : FnOk P w K mg base CX0 1 T.a__law_folded T.d__law_folded P__law_folded (spFolded K) := by
  have nd := sc__law_folded.nd
  refine T.F__law_folded.ok sc__law_folded (fun vs H Q E h => ?_) (fun cdv A outer s H vs Q E hr h => ?_)
  · obtain ⟨a, ns, sz, rfl, _⟩ := h
    rfl
  · obtain ⟨a, ns, sz, rfl, hS, l63, s1, s3, q⟩ := h
    refine ⟨_, (pss_cons (ps_set (i := 2) nd rfl (Or.inl rfl) (pe_callTy (listK K) (by rfl) T.z_list (by decide +kernel) (pa_cons (pe_slice (slK K) (pv 0) po_none (po_some (pv 1))) pa_nil)))
      (pss_cons (ps_for PassesOwn.never rfl (pi_enum (by rfl) T.z_enumerate (pa_cons (pe_slice (slK K) (pv 0) (po_some (pv 1)) (po_some pe_int)) pa_nil)) (pg_tupK K 2 (by rfl) (pgs_cons (pg_name (i := 3) nd rfl (Or.inl rfl)) (pgs_cons (pg_name (i := 4) nd rfl (Or.inl rfl)) pgs_nil))) (pss_one (ps_asg (pe_op op_add (pe_ix (ixK K) (pv 2) (pe_op op_mod (pv 3) (pv 1)) (fun _ _ => rfl)) (pe_op op_mul (pv 4) (pe_op op_add (pv 3) pe_int))) (pg_sub (pv 2) (pe_op op_mod (pv 3) (pv 1)) set_list))))
      (pss_one (ps_ret (pv 2))))), ?_⟩
    -- cells = list(script[:size])
    refine ⟨_, rfl, _, rfl, _, rfl, .inl ⟨_, _, rfl, hS, fun p1 hp1 => ⟨p1, _, rfl, .inl (SqL.of upd_same), fun l hl => ?_⟩⟩⟩
    rw [cut_head] at hl ⊢
    have n1 : l ≠ p1 := fun z => by rw [z, upd_same] at hl; cases hl
    have hl0 : H l = none := by rw [upd_ne n1] at hl; exact hl
    have x2 : Ex [] H (upd (upd H p1 (.lst ((ns.map V.int).take sz))) l (.lst ((ns.map V.int).take sz))) := (Ex.new hp1).mutNew' hl0
    refine ⟨_, rfl, _, rfl, _, rfl, _, rfl, .inl ⟨_, _, rfl, le_l x2.le0 hS, fun p3 hp3 => ⟨p3, _, rfl, SqL.of upd_same, ?_⟩⟩⟩
    rw [show (63 : Int) = ((63 : Nat) : Int) from rfl, cut_mid _ _ _ (by rw [List.length_map]; exact l63)]
    have n3 : p3 ≠ l := fun z => by rw [z, upd_same] at hp3; cases hp3
    have x3 := x2.trans (Ex.new (o := HO.lst ((ns.map V.int).drop sz)) hp3)
    rw [← List.map_drop] at x3 ⊢
    refine for_enum (xs := (ns.drop sz).map V.int) (fun i σ H3 => ∃ (ms : List Int) (y3 y4 : Option V), σ = [some (.ref a), some (.int sz), some (.ref l), y3, y4] ∧ ms.length = (ns.take sz).length ∧ H3 l = some (.lst (ms.map V.int)) ∧ H3 p3 = some (.lst ((ns.drop sz).map V.int)) ∧ Ex [] H H3)
      ⟨ns.take sz, none, none, rfl, rfl, ?_, upd_same, x3⟩ (fun i σ H3 _ ⟨_, _, _, _, _, _, h, _⟩ => SqL.of h) (fun i x T0 σ H3 hx ⟨ms, y3, y4, eσ, lm, hl3, hp3', x4⟩ hT => ?_) (fun σ H3 ⟨ms, y3, y4, eσ, lm, hl3, hp3', x4⟩ => ?_)
    · rw [upd_ne n3.symm, upd_same, List.map_take]
    · subst eσ
      obtain ⟨hi, ex⟩ := List.getElem?_eq_some_iff.mp hx
      rw [List.length_map, List.length_drop] at hi
      rw [List.getElem_map] at ex
      have lm2 : ms.length = sz := by rw [lm, List.length_take]; omega
      have nT : l ≠ T0 := ne_of_none hl3 hT
      have nT3 : p3 ≠ T0 := ne_of_none hp3' hT
      have hj : i % sz < ms.length := by rw [lm2]; exact Nat.mod_lt _ (by omega)
      have ej : ((i : Int) % (sz : Int)) = ((i % sz : Nat) : Int) := (Int.natCast_emod i sz).symm
      refine ⟨T0, _, rfl, SqT.of upd_same, rfl, _, _, rfl, _, _, rfl, rfl, ?_⟩
      refine ⟨_, rfl, _, rfl, _, rfl, _, _, rfl, rfl, (by show (0 : Int) < sz; omega), ?_⟩
      have hx2 : ∀ h : SqL K (upd H3 T0 (.tup [.int (i : Nat), x])) l (ms.map V.int), True := fun _ => trivial
      refine z_ix (.inl (SqL.of (by rw [upd_ne nT]; exact hl3))) (v := .int ms[i % sz]) (by show atI _ ((i : Int) % (sz : Int)) = _; rw [ej]; exact atI_nat (get_ints hj)) ?_
      rw [← ex]
      refine ⟨_, rfl, _, rfl, _, _, rfl, rfl, _, _, rfl, rfl, .inr ⟨by omega, by omega⟩, ?_⟩
      refine ⟨_, _, rfl, rfl, ?_⟩
      refine ⟨_, rfl, _, rfl, _, rfl, _, _, rfl, rfl, (by show (0 : Int) < sz; omega), ?_⟩
      refine ⟨l, _, _, i % sz, rfl, rfl, (by rw [upd_ne nT]; exact hl3), ?_, ?_⟩
      · show ixN _ ((i : Int) % (sz : Int)) = _
        rw [ej]
        exact ixN_nat (by rw [List.length_map]; exact hj)
      · refine ⟨_, _, _, rfl, ?_, by rw [upd_same, set_ints], ?_, (x4.trans (Ex.new hT)).mutNew' hl0⟩
        · rw [List.length_set]; exact lm
        · have n5 : p3 ≠ l := n3
          rw [upd_ne n5, upd_ne nT3]
          exact hp3'
    · subst eσ
      exact ⟨_, rfl, q l H3 ms hl0 x4 hl3 (by rw [lm, List.length_take]; omega)⟩
end
end Z01
set_option Elab.async false
set_option linter.all false
set_option maxRecDepth 100000
set_option maxHeartbeats 4000000
namespace Z01
open PySem PySem.Spec PyProof.Rows L2 Hz
section
variable {P : Program} {w : World} {K : PySem.W.Frag} {mg : Str → Option Value} {base : Heap}
local macro_rules | `(tactic| walk_at "go") => `(tactic| repeat (first | refine ⟨_, rfl, ?_⟩ | refine ⟨_, _, rfl, rfl, ?_⟩ | refine ⟨_, _, rfl, .inl (by assumption), ?_⟩ | refine ⟨(by show (0 : Int) < _; first | decide | omega), ?_⟩ | refine ⟨(by first | exact Or.inl ⟨by decide, by decide⟩ | exact Or.inr ⟨by decide, by decide⟩ | exact Or.inl ⟨by omega, by omega⟩ | exact Or.inr ⟨by omega, by omega⟩), ?_⟩ | refine ⟨divw_of (by decide) (by decide), ?_⟩ | refine ⟨⟨by decide, by decide, by decide⟩, ?_⟩ | refine Or.inr ⟨_, rfl, ?_⟩ | refine z_ixL (by assumption) rfl ?_ | refine z_ixL upd_same rfl ?_ | refine ⟨_, _, _, _, rfl, rfl, by assumption, rfl, ?_⟩))
/-- a hill that the laws draw, handed in by tuples or by lists -/
structure HillOk (h : Hill) : Prop where
  y1 : 1 ≤ h.year.length
  y2 : h.year.length ≤ 20
  d0 : ∀ d, d ∈ h.year → 0 ≤ d.1 ∧ d.1 ≤ 10 ^ 12
  op : ∃ d, d ∈ h.year ∧ d.2 = true
  dr : 0 < h.drops
  n1 : 1 ≤ h.needs.length
  n2 : h.needs.length ≤ 20
  n0 : ∀ m, m ∈ h.needs → 1 ≤ m ∧ m ≤ 10 ^ 14
  m0 : 0 ≤ h.most
  m1 : h.most ≤ 10 ^ 14
def spHill (K : PySem.W.Frag) (f : Hill → V) : Sp := fun vs H Q _ => ∃ (t : Bool) (h : Hill) (v : V), vs = [v] ∧ Dp K H v (h.dat t) ∧ HillOk h ∧ ∀ H', Ex [] H H' → Q (f h) H'
/-- of a hill and a day -/
def spDay (K : PySem.W.Frag) (R : Hill → Nat → V → Prop) : Sp := fun vs H Q _ => ∃ (t : Bool) (h : Hill) (v : V) (n : Nat), vs = [v, .int n] ∧ Dp K H v (h.dat t) ∧ HillOk h ∧ ∀ r H', R h n r → Ex [] H H' → Q r H'
theorem HillOk.L0 {h : Hill} (k : HillOk h) : 0 < h.L := k.y1
theorem HillOk.nn {h : Hill} (k : HillOk h) : h.Nn := fun d hd => (k.d0 d hd).1
theorem sum_le {l : List Int} {z : Int} (h0 : 0 ≤ z) (h : ∀ x, x ∈ l → x ≤ z) : l.sum ≤ l.length * z := by
  induction l with
  | nil => simp
  | cons a r ih =>
    have h1 := h a (List.mem_cons_self ..)
    have h2 := ih fun x hx => h x (List.mem_cons_of_mem _ hx)
    rw [List.sum_cons, List.length_cons]
    have e : ((r.length + 1 : Nat) : Int) * z = r.length * z + z := by
      rw [show ((r.length + 1 : Nat) : Int) = (r.length : Int) + 1 from rfl, Int.add_mul, Int.one_mul]
    omega
theorem HillOk.dm {h : Hill} (k : HillOk h) : h.drops ≤ 20 * 10 ^ 12 := by
  have h1 : h.drops ≤ (h.year.map (·.1)).length * (10 ^ 12 : Int) := sum_le (by decide) fun x hx => by
    obtain ⟨d, hd, rfl⟩ := List.mem_map.mp hx
    exact (k.d0 d hd).2
  rw [List.length_map] at h1
  have h2 := k.y2
  have h3 : ((h.year.length : Nat) : Int) * (10 ^ 12 : Int) ≤ 20 * 10 ^ 12 := by
    have : ((h.year.length : Nat) : Int) ≤ 20 := by omega
    omega
  omega
end
end Z01
set_option Elab.async false
set_option linter.all false
set_option maxRecDepth 100000
set_option maxHeartbeats 4000000
namespace Z01
open PySem PySem.Spec PyProof.Rows L2 Hz
section
variable {P : Program} {w : World} {K : PySem.W.Frag} {mg : Str → Option Value} {base : Heap}
local macro_rules | `(tactic| walk_at "go") => `(tactic| repeat (first | refine ⟨_, rfl, ?_⟩ | refine ⟨_, _, rfl, rfl, ?_⟩ | refine ⟨_, _, rfl, .inl (by assumption), ?_⟩ | refine ⟨(by show (0 : Int) < _; first | decide | omega), ?_⟩ | refine ⟨(by first | exact Or.inl ⟨by decide, by decide⟩ | exact Or.inr ⟨by decide, by decide⟩ | exact Or.inl ⟨by omega, by omega⟩ | exact Or.inr ⟨by omega, by omega⟩), ?_⟩ | refine ⟨divw_of (by decide) (by decide), ?_⟩ | refine ⟨⟨by decide, by decide, by decide⟩, ?_⟩ | refine Or.inr ⟨_, rfl, ?_⟩ | refine z_ixL (by assumption) rfl ?_ | refine z_ixL upd_same rfl ?_ | refine ⟨_, _, _, _, rfl, rfl, by assumption, rfl, ?_⟩))
local macro_rules | `(tactic| walk_at "un") => `(tactic| dsimp only [tSeq, tIfS, tRet, tAsg, tDrop, tOr, tAnd, tNot, tAndV, tOrV, tNotV, tTest, tB, tOp, tUn, tCB, tCons, tNil, tC, tNext, tIf, tChain, gName])
/-- lists for tuples -/
def spLists (K : PySem.W.Frag) (N : Nat) : Sp := fun vs H Q _ => ∃ (B : List Addr) (v : V) (d : PyData), vs = [v] ∧ Dp K (wo B H) v d ∧ dpt N d ∧ (∀ b, b ∈ B → H b ≠ none) ∧ ∀ v' H', Ex [] H H' → Dp K (wo B H') v' (listed d) → Q v' H'
/-- two things that are alike -/
def spSame (K : PySem.W.Frag) (N : Nat) : Sp := fun vs H Q _ => ∃ (u v : V) (d : PyData), vs = [u, v] ∧ Dp K H u d ∧ Dp K H v d ∧ dpt N d ∧ ∀ H', Ex [] H H' → Q (.bl true) H'
theorem ok_same_one (T : Txt K mg) (N : Nat) (sp' : Sp) (G__law_same : FnOk P w K mg base CX0 N T.a__law_same T.d__law_same P__law_same sp') (hsp : N = 0 ∨ ∃ M, N = M + 1 ∧ sp' = spSame K M) :
    FnOk P w K mg base CX0 (N + 1) T.a__law_same T.d__law_same P__law_same (spSame K N) := by
  have nd := sc__law_same.nd
  refine T.F__law_same.ok sc__law_same (fun vs H Q E h => ?_) (fun cdv A outer s H vs Q E hr h => ?_)
  · obtain ⟨u, v, d, rfl, _⟩ := h
    rfl
  · obtain ⟨u, v, d, rfl, hU, hV, hN, q⟩ := h
    have hr__law_same := hr
    refine ⟨_, (pss_cons (ps_if (pt_val (pe_callB (isiTK K) (by rfl) T.z_isinstance (by decide +kernel) (pa_cons (pv 1) (pa_cons (pe_tup (pa_cons (pe_bltn (by rfl) T.z_list (by decide +kernel) (v := .ty "list") rfl) (pa_cons (pe_bltn (by rfl) T.z_tuple (by decide +kernel) (v := .ty "tuple") rfl) pa_nil))) pa_nil)))) (pss_cons (ps_if (PW.pt (pw_or (pt_cmpR op_ne (pe_callB (isiK K) (by rfl) T.z_isinstance (by decide +kernel) (pa_cons (pv 0) (pa_cons (pe_bltn (by rfl) T.z_list (by decide +kernel) (v := .ty "list") rfl) pa_nil))) (pe_callB (isiK K) (by rfl) T.z_isinstance (by decide +kernel) (pa_cons (pv 1) (pa_cons (pe_bltn (by rfl) T.z_list (by decide +kernel) (v := .ty "list") rfl) pa_nil))) (nomark _)) (pw_or1 (pt_cmpR op_ne (pe_callB (isiK K) (by rfl) T.z_isinstance (by decide +kernel) (pa_cons (pv 0) (pa_cons (pe_bltn (by rfl) T.z_tuple (by decide +kernel) (v := .ty "tuple") rfl) pa_nil))) (pe_callB (isiK K) (by rfl) T.z_isinstance (by decide +kernel) (pa_cons (pv 1) (pa_cons (pe_bltn (by rfl) T.z_tuple (by decide +kernel) (v := .ty "tuple") rfl) pa_nil))) (nomark _))))) (pss_one (ps_ret pe_bl)) pss_nil)
      (pss_one (ps_ret (pe_and (pe_cmpR op_eq (pe_callB (lenK K) (by rfl) T.z_len (by decide +kernel) (pa_cons (pv 0) pa_nil)) (pe_callB (lenK K) (by rfl) T.z_len (by decide +kernel) (pa_cons (pv 1) pa_nil)) (nomark _)) (pe_one (pe_callB (allK K) (by rfl) T.z_all (by decide +kernel) (pa_cons (pe_lc (own := [("_law_mine", 2), ("_law_its", 3)]) (by rfl) nd (RZ.pi_zipA (by rfl) T.z_zip (pa_cons (pv 0) (pa_cons (pv 1) pa_nil))) (blkOk_by (N := N__law_same) (own := [("_law_mine", 2), ("_law_its", 3)]) (sc := defScope s__law_same) (by decide +kernel)) (fun _ _ _ _ _ => (pg_tupK K 2 (by rfl) (pgs_cons (pg_name (i := 2) nd rfl (Or.inl rfl)) (pgs_cons (pg_name (i := 3) nd rfl (Or.inl rfl)) pgs_nil)))) (fun _ _ _ _ _ => pts_nil) (fun _ _ _ _ _ => (pe_call G__law_same hr__law_same (by rfl) T.m__law_same T.k__law_same T.b__law_same .nil pass0 (pa_cons (pv 2) (pa_cons (pv 3) pa_nil))))) pa_nil))))))) pss_nil)
      (pss_cons (ps_if (PW.pt (pw_or (pt_cmpR op_isN (pv 1) pe_non (nomark _)) (pw_or1 (pt_val (pe_callB (isiK K) (by rfl) T.z_isinstance (by decide +kernel) (pa_cons (pv 1) (pa_cons (pe_bltn (by rfl) T.z_str (by decide +kernel) (v := .ty "str") rfl) pa_nil))))))) (pss_one (ps_ret (pe_and (pe_cmpR op_eq (pv 0) (pv 1) (nomark _)) (pe_one (pe_cmpR op_eq (pe_callB (isiK K) (by rfl) T.z_isinstance (by decide +kernel) (pa_cons (pv 0) (pa_cons (pe_bltn (by rfl) T.z_str (by decide +kernel) (v := .ty "str") rfl) pa_nil))) (pe_callB (isiK K) (by rfl) T.z_isinstance (by decide +kernel) (pa_cons (pv 1) (pa_cons (pe_bltn (by rfl) T.z_str (by decide +kernel) (v := .ty "str") rfl) pa_nil))) (nomark _)))))) pss_nil)
      (pss_one (ps_ret (pe_and (pe_callB (isiK K) (by rfl) T.z_isinstance (by decide +kernel) (pa_cons (pv 0) (pa_cons (pe_bltn (by rfl) T.z_int (by decide +kernel) (v := .ty "int") rfl) pa_nil))) (pe_and (pe_cmpR op_eq (pe_callB (isiK K) (by rfl) T.z_isinstance (by decide +kernel) (pa_cons (pv 0) (pa_cons (pe_bltn (by rfl) T.z_bool (by decide +kernel) (v := .ty "bool") rfl) pa_nil))) (pe_callB (isiK K) (by rfl) T.z_isinstance (by decide +kernel) (pa_cons (pv 1) (pa_cons (pe_bltn (by rfl) T.z_bool (by decide +kernel) (v := .ty "bool") rfl) pa_nil))) (nomark _)) (pe_one (pe_cmpR op_eq (pv 0) (pv 1) (nomark _))))))))), ?_⟩
    refine ⟨_, rfl, (by show 2 ≤ sizeLine; decide), fun p hp => ?_⟩
    have x1 : Ex [] H (upd H p (.tup [.ty "list", .ty "tuple"])) := Ex.new hp
    have hU1 := dp_le x1.le0 _ _ hU
    have hV1 := dp_le x1.le0 _ _ hV
    dsimp only [tNil]
    refine z_isiLT hV1 upd_same ?_
    refine ⟨_, rfl, ?_⟩
    generalize upd H p (.tup [.ty "list", .ty "tuple"]) = H1 at x1 hU1 hV1 ⊢
    have h1 : "list" = "list" ∨ ("list" : String) = "tuple" ∨ ("list" : String) = "bool" ∨ ("list" : String) = "int" ∨ ("list" : String) = "str" := .inl rfl
    have h2 : ("tuple" : String) = "list" ∨ ("tuple" : String) = "tuple" ∨ ("tuple" : String) = "bool" ∨ ("tuple" : String) = "int" ∨ ("tuple" : String) = "str" := .inr (.inl rfl)
    have h3 : ("bool" : String) = "list" ∨ ("bool" : String) = "tuple" ∨ ("bool" : String) = "bool" ∨ ("bool" : String) = "int" ∨ ("bool" : String) = "str" := .inr (.inr (.inl rfl))
    have h4 : ("int" : String) = "list" ∨ ("int" : String) = "tuple" ∨ ("int" : String) = "bool" ∨ ("int" : String) = "int" ∨ ("int" : String) = "str" := .inr (.inr (.inr (.inl rfl)))
    have h5 : ("str" : String) = "list" ∨ ("str" : String) = "tuple" ∨ ("str" : String) = "bool" ∨ ("str" : String) = "int" ∨ ("str" : String) = "str" := .inr (.inr (.inr (.inr rfl)))
    have qt := q H1 x1
    have deep : ∀ (t : Bool) (ds : List PyData), d = sq t ds → tCB (rAll K) (tCons (tLc (RZ.iZipA K (tCons (tVar 0) (tCons (tVar 1) tNil))) (gTup K 2 (gCons (gName 2) (gCons (gName 3) gNil))) tYes (tCall sp' [] E0 (tCons (tVar 2) (tCons (tVar 3) tNil))) [2, 3]) tNil) (L2.start N__law_same [u, v]) H1 Q := fun t ds e => by
      have hM : ∃ M, sp' = spSame K M ∧ ds.length ≤ 1000 ∧ ∀ d ∈ ds, dpt M d := by
        rcases hsp with rfl | ⟨M, rfl, rfl⟩
        · exfalso; subst e; cases t <;> exact hN
        · refine ⟨M, rfl, ?_⟩
          subst e
          cases t <;> exact hN
      obtain ⟨M, rfl, hl, hds⟩ := hM
      subst e
      obtain ⟨a, xs, rfl, hS, hA⟩ := dp_sq hU1
      obtain ⟨b, ys, rfl, hS2, hA2⟩ := dp_sq hV1
      have ll := dpa_len hA
      have ll2 := dpa_len hA2
      walk_at "un"
      refine z_lcZ (B := []) (C := []) (t := t) (xs := xs) (ys := ys) (by omega) (fun R r => ⟨_, rfl, _, rfl, r a b H1 (Ex.refl _ _) (by rw [wo_nil]; exact hS) (by rw [wo_nil]; exact hS2)⟩) (fun _ z _ => z = .bl true) (fun _ _ => True)
        (fun H2 x2 => lcOk0 (by omega)) (fun H2 x2 i x y hx hy D T0 H' hD' nB e1 _ tD nTD hT0 N hN => ?_) (fun H2 x2 D zs H' hD' hz lz rz e1 _ => ?_)
      · obtain ⟨d, hd, hdD⟩ := dpa_get' hA hx
        obtain ⟨d', hd', hdD'⟩ := dpa_get' hA2 hy
        rw [hd] at hd'
        cases hd'
        have x4 := (x2.trans e1).le0
        refine ⟨T0, _, rfl, SqT.of hT0, rfl, _, _, rfl, _, _, rfl, rfl, rfl, _, rfl, _, rfl, x, y, d, rfl, dp_le x4 _ _ hdD, dp_le x4 _ _ hdD', hds d (List.mem_of_getElem? hd), fun H3 x3 => hN _ H3 x3 rfl trivial⟩
      · have ez : zs = (List.replicate xs.length true).map V.bl := by
          apply List.ext_getElem?
          intro j
          rw [List.map_replicate]
          by_cases c : j < zs.length
          · rw [List.getElem?_eq_getElem c, rz j _ (List.getElem?_eq_getElem c), List.getElem?_replicate, if_pos (by omega)]
          · rw [List.getElem?_eq_none (by omega), List.getElem?_eq_none (by rw [List.length_replicate]; omega)]
        refine ⟨D, List.replicate xs.length true, rfl, SqL.of (by rw [hz, ez]), ?_⟩
        have ea : (List.replicate xs.length true).all id = true := by
          rw [List.all_eq_true]
          intro z hz
          rw [List.eq_of_mem_replicate hz]
          rfl
        rw [ea]
        exact q H' ((x1.trans x2).trans e1)
    walk_at "un"
    cases d with
    | dict kvs => cases hU
    | list ds =>
      refine iteT ?_
      refine ⟨_, rfl, z_isi hU1 h1 ⟨_, rfl, z_isi hV1 h1 ⟨rfl, _, rfl, ?_⟩⟩⟩
      refine iteNS rfl ?_
      refine ⟨_, rfl, z_isi hU1 h2 ⟨_, rfl, z_isi hV1 h2 ⟨rfl, _, rfl, ?_⟩⟩⟩
      refine iteNS rfl ?_
      have dp := deep false ds rfl
      obtain ⟨a, xs, rfl, hS, hA⟩ := dp_sq (t := false) hU1
      obtain ⟨b, ys, rfl, hS2, hA2⟩ := dp_sq (t := false) hV1
      have ll := dpa_len hA
      have ll2 := dpa_len hA2
      refine ⟨_, rfl, _, _, rfl, hS.sq, _, rfl, _, _, rfl, hS2.sq, rfl, _, rfl, ?_⟩
      rw [ll, ll2, decide_eq_true rfl]
      exact iteT dp
    | tuple ds =>
      refine iteT ?_
      refine ⟨_, rfl, z_isi hU1 h1 ⟨_, rfl, z_isi hV1 h1 ⟨rfl, _, rfl, ?_⟩⟩⟩
      refine iteNS rfl ?_
      refine ⟨_, rfl, z_isi hU1 h2 ⟨_, rfl, z_isi hV1 h2 ⟨rfl, _, rfl, ?_⟩⟩⟩
      refine iteNS rfl ?_
      have dp := deep true ds rfl
      obtain ⟨a, xs, rfl, hS, hA⟩ := dp_sq (t := true) hU1
      obtain ⟨b, ys, rfl, hS2, hA2⟩ := dp_sq (t := true) hV1
      have ll := dpa_len hA
      have ll2 := dpa_len hA2
      refine ⟨_, rfl, _, _, rfl, hS.sq, _, rfl, _, _, rfl, hS2.sq, rfl, _, rfl, ?_⟩
      rw [ll, ll2, decide_eq_true rfl]
      exact iteT dp
    | none =>
      have hU2 := hU1
      have hV2 := hV1
      cases hU1
      cases hV1
      refine iteF ⟨_, rfl, rfl, _, rfl, iteT ⟨_, rfl, _, rfl, rfl, _, rfl, iteT ?_⟩⟩
      exact ⟨_, rfl, z_isi hU2 h5 ⟨_, rfl, z_isi hV2 h5 ⟨rfl, by rw [decide_eq_true rfl]; exact qt⟩⟩⟩
    | str b =>
      have hU2 := hU1
      have hV2 := hV1
      cases hU1
      cases hV1
      refine iteF ⟨_, rfl, rfl, _, rfl, iteF ⟨_, rfl, z_isi hV2 h5 ⟨_, rfl, iteT ⟨_, rfl, _, rfl, rfl, _, rfl, ?_⟩⟩⟩⟩
      rw [decide_eq_true rfl]
      exact iteT ⟨_, rfl, z_isi hU2 h5 ⟨_, rfl, z_isi hV2 h5 ⟨rfl, by rw [decide_eq_true rfl]; exact qt⟩⟩⟩
    | bool b =>
      have hU2 := hU1
      have hV2 := hV1
      cases hU1
      cases hV1
      refine iteF ⟨_, rfl, rfl, _, rfl, iteF ⟨_, rfl, z_isi hV2 h5 ⟨_, rfl, iteF ⟨_, rfl, z_isi hU2 h4 ⟨_, rfl, iteT ⟨_, rfl, z_isi hU2 h3 ⟨_, rfl, z_isi hV2 h3 ⟨rfl, _, rfl, ?_⟩⟩⟩⟩⟩⟩⟩⟩
      rw [decide_eq_true rfl]
      exact iteT ⟨_, rfl, _, rfl, rfl, by rw [decide_eq_true rfl]; exact qt⟩
    | int b =>
      have hU2 := hU1
      have hV2 := hV1
      cases hU1
      cases hV1
      refine iteF ⟨_, rfl, rfl, _, rfl, iteF ⟨_, rfl, z_isi hV2 h5 ⟨_, rfl, iteF ⟨_, rfl, z_isi hU2 h4 ⟨_, rfl, iteT ⟨_, rfl, z_isi hU2 h3 ⟨_, rfl, z_isi hV2 h3 ⟨rfl, _, rfl, ?_⟩⟩⟩⟩⟩⟩⟩⟩
      rw [decide_eq_true rfl]
      exact iteT ⟨_, rfl, _, rfl, rfl, by rw [decide_eq_true rfl]; exact qt⟩
theorem ok_same (T : Txt K mg) : ∀ N, FnOk P w K mg base CX0 (N + 1) T.a__law_same T.d__law_same P__law_same (spSame K N)
  | 0 => ok_same_one T 0 (fun _ _ _ _ => False) ⟨fun _ _ _ _ h => h.elim, fun _ _ _ _ _ _ _ _ _ _ _ _ _ h => h.elim⟩ (.inl rfl)
  | N + 1 => ok_same_one T (N + 1) (spSame K N) (ok_same T N) (.inr ⟨N, rfl, rfl⟩)
end
end Z01
set_option Elab.async false
set_option linter.all false
set_option maxRecDepth 100000
set_option maxHeartbeats 4000000
namespace Z01
open PySem PySem.Spec PyProof.Rows L2 Hz
section
variable {P : Program} {w : World} {K : PySem.W.Frag} {mg : Str → Option Value} {base : Heap}
local macro_rules | `(tactic| walk_at "go") => `(tactic| repeat (first | refine ⟨_, rfl, ?_⟩ | refine ⟨_, _, rfl, rfl, ?_⟩ | refine ⟨_, _, rfl, .inl (by assumption), ?_⟩ | refine ⟨(by show (0 : Int) < _; first | decide | omega), ?_⟩ | refine ⟨(by first | exact Or.inl ⟨by decide, by decide⟩ | exact Or.inr ⟨by decide, by decide⟩ | exact Or.inl ⟨by omega, by omega⟩ | exact Or.inr ⟨by omega, by omega⟩), ?_⟩ | refine ⟨divw_of (by decide) (by decide), ?_⟩ | refine ⟨⟨by decide, by decide, by decide⟩, ?_⟩ | refine Or.inr ⟨_, rfl, ?_⟩ | refine z_ixL (by assumption) rfl ?_ | refine z_ixL upd_same rfl ?_ | refine ⟨_, _, _, _, rfl, rfl, by assumption, rfl, ?_⟩))
local macro_rules | `(tactic| walk_at "un") => `(tactic| dsimp only [tSeq, tIfS, tRet, tAsg, tDrop, tOr, tAnd, tNot, tAndV, tOrV, tNotV, tTest, tB, tOp, tUn, tCB, tCons, tNil, tC, tNext, tIf, tChain, gName])

def spHillT (K : PySem.W.Frag) (f : Hill → V) : Sp := fun vs H Q _ => ∃ (h : Hill) (v : V), vs = [v] ∧ Dp K H v (h.dat true) ∧ HillOk h ∧ ∀ H', Ex [] H H' → Q (f h) H'
/-- the two parts of a day, a tuple -/
theorem day_parts {H : Hp} {x : V} {i : Int} {b : Bool} (h : Dp K H x (sq true [.int i, .bool b])) : ∃ a, x = .ref a ∧ SqT K H a [.int i, .bl b] := by
  obtain ⟨a, xs, rfl, hS, hA⟩ := dp_tup h
  cases hA with
  | cons h1 h2 =>
    cases h2 with
    | cons h3 h4 =>
      cases h4
      rw [dp_int h1, dp_bl h3] at hS
      exact ⟨a, rfl, hS⟩
def spDayT (K : PySem.W.Frag) (R : Hill → Nat → V → Prop) : Sp := fun vs H Q _ => ∃ (h : Hill) (v : V) (n : Nat), vs = [v, .int n] ∧ Dp K H v (h.dat true) ∧ HillOk h ∧ ∀ r H', R h n r → Ex [] H H' → Q r H'
def spDawn (K : PySem.W.Frag) : Sp := fun vs H Q _ => ∃ (h : Hill) (v : V) (n : Nat), vs = [v, .int n] ∧ Dp K H v (h.dat true) ∧ HillOk h ∧ 1 ≤ n ∧ ∀ (m : Nat) H', h.DayOf n m → Ex [] H H' → Q (.int m) H'
end
end Z01
set_option Elab.async false
set_option linter.all false
set_option maxRecDepth 100000
set_option maxHeartbeats 4000000
namespace Z01
open PySem PySem.Spec PyProof.Rows L2 Hz
section
variable {P : Program} {w : World} {K : PySem.W.Frag} {mg : Str → Option Value} {base : Heap}
local macro_rules | `(tactic| walk_at "go") => `(tactic| repeat (first | refine ⟨_, rfl, ?_⟩ | refine ⟨_, _, rfl, rfl, ?_⟩ | refine ⟨_, _, rfl, .inl (by assumption), ?_⟩ | refine ⟨(by show (0 : Int) < _; first | decide | omega), ?_⟩ | refine ⟨(by first | exact Or.inl ⟨by decide, by decide⟩ | exact Or.inr ⟨by decide, by decide⟩ | exact Or.inl ⟨by omega, by omega⟩ | exact Or.inr ⟨by omega, by omega⟩), ?_⟩ | refine ⟨divw_of (by decide) (by decide), ?_⟩ | refine ⟨⟨by decide, by decide, by decide⟩, ?_⟩ | refine Or.inr ⟨_, rfl, ?_⟩ | refine z_ixL (by assumption) rfl ?_ | refine z_ixL upd_same rfl ?_ | refine ⟨_, _, _, _, rfl, rfl, by assumption, rfl, ?_⟩))
local macro_rules | `(tactic| walk_at "un") => `(tactic| dsimp only [tSeq, tIfS, tRet, tAsg, tDrop, tOr, tAnd, tNot, tAndV, tOrV, tNotV, tTest, tB, tOp, tUn, tCB, tCons, tNil, tC, tNext, tIf, tChain, gName, tPar, tPar3, tTup, tLst])


def spWide (K : PySem.W.Frag) : Sp := fun vs H Q _ => ∃ (b : Addr) (n : Nat), vs = [.ref b] ∧ Bx b n H ∧ n ≤ 10 ^ 12 ∧ ∀ (z : Int) H', 1 ≤ z → z ≤ 10 ^ 10 → Ex [b] H H' → Bx b (n + 16) H' → Q (.int z) H'
def spNest (K : PySem.W.Frag) : Sp := fun vs H Q _ => ∃ (b : Addr) (n : Nat) (len size wide : Int), vs = [.ref b, .int len, .int size, .int wide] ∧ Bx b n H ∧ n ≤ 10 ^ 11 ∧ 1 ≤ len ∧ len ≤ 12 ∧ 1 ≤ size ∧ size ≤ 6 ∧ 1 ≤ wide ∧ wide ≤ 10 ^ 10 ∧
  ∀ (h : Hill) v H', HillOk h → Dp K (wo [b] H') v (h.dat true) → Ex [b] H H' → Bx b (n + 5000) H' → Q v H'
theorem ok_nest (T : Txt K mg) : FnOk P w K mg base CX0 7 T.a__law_nest T.d__law_nest P__law_nest (spNest K) := by
  have nd := sc__law_nest.nd
  have G__law_of := ok_of (P := P) (w := w) (base := base) T
  have G__law_take := ok_T (P := P) (w := w) (base := base) T
  refine T.F__law_nest.ok sc__law_nest (fun vs H Q E h => ?_) (fun cdv A outer s H vs Q E hr h => ?_)
  · obtain ⟨b, n, len, size, wide, rfl, _⟩ := h
    rfl
  · obtain ⟨b, n, len, size, wide, rfl, hB, hn, l1, l2, s1, s2, w1, w2, q⟩ := h
    have hr__law_of := hr
    have hr__law_take := hr.mono (show 5 ≤ 6 by decide)
    have hn' : n ≤ 100000000000 := hn
    refine ⟨_, (pss_cons (ps_set (i := 4) nd rfl (Or.inl rfl) (pe_lst pa_nil))
      (pss_cons (ps_for PassesOwn.never rfl (pi_range1 (by rfl) T.z_range (pa_cons (pe_op op_add pe_int (pe_call G__law_take hr__law_take (by rfl) T.m__law_take T.k__law_take T.b__law_take .nil pass0 (pa_cons (pv 0) (pa_cons (pv 1) pa_nil)))) pa_nil)) (pg_name (i := 5) nd rfl (Or.inl rfl)) (pss_cons (ps_set (i := 6) nd rfl (Or.inl rfl) (pe_call G__law_of hr__law_of (by rfl) T.m__law_of T.k__law_of T.b__law_of .nil pass0 (pa_cons (pv 0) (pa_cons (pe_lst (pa_cons pe_int (pa_cons (pe_op op_add pe_int (pe_call G__law_take hr__law_take (by rfl) T.m__law_take T.k__law_take T.b__law_take .nil pass0 (pa_cons (pv 0) (pa_cons (pv 3) pa_nil)))) (pa_cons (pe_call G__law_take hr__law_take (by rfl) T.m__law_take T.k__law_take T.b__law_take .nil pass0 (pa_cons (pv 0) (pa_cons pe_int pa_nil))) pa_nil)))) pa_nil))))
      (pss_one (ps_expr (pe_bm PySem.F.plainAttrs_list PySem.F.slot_list_append PySem.F.type_list_append mt_append (pv 4) (pa_cons (pe_lst (pa_cons (pv 6) (pa_cons (pe_cmpR op_eq (pe_call G__law_take hr__law_take (by rfl) T.m__law_take T.k__law_take T.b__law_take .nil pass0 (pa_cons (pv 0) (pa_cons pe_int pa_nil))) pe_int (nomark _)) pa_nil))) pa_nil))))))
      (pss_cons (ps_par (i := 7) (j := 8) (by rfl) nd rfl rfl (by decide) rfl rfl (pa_cons (pe_call G__law_take hr__law_take (by rfl) T.m__law_take T.k__law_take T.b__law_take .nil pass0 (pa_cons (pv 0) (pa_cons (pe_callB (lenK K) (by rfl) T.z_len (by decide +kernel) (pa_cons (pv 4) pa_nil)) pa_nil))) (pa_cons (pe_call G__law_take hr__law_take (by rfl) T.m__law_take T.k__law_take T.b__law_take .nil pass0 (pa_cons (pv 0) (pa_cons (pe_callB (lenK K) (by rfl) T.z_len (by decide +kernel) (pa_cons (pv 4) pa_nil)) pa_nil))) pa_nil)) (by rfl))
      (pss_cons (ps_asg (pe_tup (pa_cons (pe_callB (call_max2 rfl) (by rfl) T.z_max (by decide +kernel) (pa_cons pe_int (pa_cons (pe_ix (ixK K) (pe_ix (ixK K) (pv 4) (pv 7) (fun _ _ => rfl)) pe_int (fun _ _ => rfl)) pa_nil))) (pa_cons pe_bl pa_nil))) (pg_tupK K 2 (by rfl) (pgs_cons (pg_sub (pe_ix (ixK K) (pv 4) (pv 7) (fun _ _ => rfl)) pe_int set_list) (pgs_cons (pg_sub (pe_ix (ixK K) (pv 4) (pv 8) (fun _ _ => rfl)) pe_int set_list) pgs_nil))))
      (pss_cons (ps_par (i := 9) (j := 10) (by rfl) nd rfl rfl (by decide) rfl rfl (pa_cons (pe_callB (sumK K) (by rfl) T.z_sum (by decide +kernel) (pa_cons (pe_lc (own := [("_law_pair", 12)]) (by rfl) nd (pi_listK K (pv 4)) (blkOk_by (N := N__law_nest) (own := [("_law_pair", 12)]) (sc := defScope s__law_nest) (by decide +kernel)) (fun _ _ _ _ _ => pg_name (i := 12) nd rfl (Or.inl rfl)) (fun _ _ _ _ _ => pts_nil) (fun _ _ _ _ _ => (pe_ix (ixK K) (pv 12) pe_int (fun _ _ => rfl)))) pa_nil)) (pa_cons (pe_lst pa_nil) pa_nil)) (by rfl))
      (pss_cons (ps_for PassesOwn.never rfl (pi_range1 (by rfl) T.z_range (pa_cons (pe_op op_add pe_int (pe_call G__law_take hr__law_take (by rfl) T.m__law_take T.k__law_take T.b__law_take .nil pass0 (pa_cons (pv 0) (pa_cons (pv 2) pa_nil)))) pa_nil)) (pg_name (i := 5) nd rfl (Or.inl rfl)) (pss_one (ps_expr (pe_bm PySem.F.plainAttrs_list PySem.F.slot_list_append PySem.F.type_list_append mt_append (pv 10) (pa_cons (pe_op op_add pe_int (pe_call G__law_take hr__law_take (by rfl) T.m__law_take T.k__law_take T.b__law_take .nil pass0 (pa_cons (pv 0) (pa_cons (pe_call G__law_of hr__law_of (by rfl) T.m__law_of T.k__law_of T.b__law_of .nil pass0 (pa_cons (pv 0) (pa_cons (pe_lst (pa_cons pe_int (pa_cons (pv 9) (pa_cons (pe_op op_mul pe_int (pv 9)) pa_nil)))) pa_nil))) pa_nil)))) pa_nil)))))
      (pss_cons (ps_set (i := 11) nd rfl (Or.inl rfl) (pe_call G__law_of hr__law_of (by rfl) T.m__law_of T.k__law_of T.b__law_of .nil pass0 (pa_cons (pv 0) (pa_cons (pe_lst (pa_cons pe_int (pa_cons (pe_call G__law_take hr__law_take (by rfl) T.m__law_take T.k__law_take T.b__law_take .nil pass0 (pa_cons (pv 0) (pa_cons pe_int pa_nil))) (pa_cons (pe_call G__law_take hr__law_take (by rfl) T.m__law_take T.k__law_take T.b__law_take .nil pass0 (pa_cons (pv 0) (pa_cons (pe_op op_add (pv 9) pe_int) pa_nil))) (pa_cons (pv 9) pa_nil))))) pa_nil))))
      (pss_one (ps_ret (pe_tup (pa_cons (pe_callTy (tupK K) (by rfl) T.z_tuple (by decide +kernel) (pa_cons (pe_lc (own := [("_law_pair", 12)]) (by rfl) nd (pi_listK K (pv 4)) (blkOk_by (N := N__law_nest) (own := [("_law_pair", 12)]) (sc := defScope s__law_nest) (by decide +kernel)) (fun _ _ _ _ _ => pg_name (i := 12) nd rfl (Or.inl rfl)) (fun _ _ _ _ _ => pts_nil) (fun _ _ _ _ _ => (pe_callTy (tupK K) (by rfl) T.z_tuple (by decide +kernel) (pa_cons (pv 12) pa_nil)))) pa_nil)) (pa_cons (pe_callTy (tupK K) (by rfl) T.z_tuple (by decide +kernel) (pa_cons (pv 10) pa_nil)) (pa_cons (pv 11) pa_nil))))))))))))), ?_⟩
    walk_at "un"
    -- year = []
    refine ⟨Nat.zero_le _, fun y hy => ?_⟩
    have x1 : Ex [] H (upd H y (.lst [])) := Ex.new hy
    have hby : b ≠ y := (hB.ne hy).symm
    -- for k in range(1 + take(box, length))
    refine ⟨_, rfl, _, rfl, b, len, n, rfl, hB.ex x1 (by simp), by omega, l1, by omega, fun r H1 r0 r1 x2 B2 => ?_⟩
    have Y0 : YearAt b y [] [] H1 := YearAt.ex ⟨by rw [upd_same]; rfl, rfl, fun j a d h _ => by simp at h, List.nodup_nil, by simp, by simp, hby⟩ x2
    refine ⟨_, _, rfl, rfl, _, rfl, by omega, by omega, ?_⟩
    have x12 := (Ex.nil (B := [b]) x1).trans x2
    refine for_range (lo := 0) (n := (1 + r).toNat) (fun i σ H' => ∃ (as : List Addr) (c : List (Int × Bool)) (u1 u2 : Option V), σ = [some (.ref b), some (.int len), some (.int size), some (.int wide), some (.ref y), u1, u2, none, none, none, none, none, none] ∧ c.length = i ∧ YearAt b y as c H' ∧ (∀ d ∈ c, 0 ≤ d.1 ∧ d.1 ≤ 10 ^ 11) ∧ Ex [b] H H' ∧ Bx b (n + 16 + 100 * i) H' ∧ ∀ a ∈ as, H a = none)
      ⟨[], [], none, none, rfl, rfl, Y0, by simp, x12, B2, by simp⟩ (fun i σ H' hi hP => ?_) (fun σ H' hP => ?_)
    · obtain ⟨as, c, u1, u2, rfl, lc, hY, hc, x3, B3, hna⟩ := hP
      have hi' : (i : Int) < 1 + r := by omega
      refine ⟨_, rfl, _, rfl, _, rfl, b, wide, _, rfl, B3, by omega, w1, by omega, fun r1 H2 a0 a1 x4 B4 => ?_⟩
      refine ⟨_, _, rfl, rfl, _, rfl, b, 3, _, rfl, B4, by omega, by decide, by decide, fun r2 H3 c0 c1 x5 B5 => ⟨(by show 3 ≤ sizeLine; decide), fun p hp => ?_⟩⟩
      have x6 : Ex [] H3 (upd H3 p (.lst [.int 0, .int (1 + r1), .int r2])) := Ex.new hp
      refine ⟨b, p, _, _, rfl, B5.ex x6 (by simp), by omega, sq_new B5 hp, (by show 1 ≤ 3; decide), (by show 3 ≤ 1000; decide), fun v H4 hv x7 B7 => ?_⟩
      have hv' : ∃ z : Int, v = .int z ∧ 0 ≤ z ∧ z ≤ 10 ^ 11 := by
        simp only [List.mem_cons, List.not_mem_nil, or_false] at hv
        rcases hv with rfl | rfl | rfl
        · exact ⟨_, rfl, by decide, by decide⟩
        · exact ⟨_, rfl, by omega, by omega⟩
        · exact ⟨_, rfl, by omega, by omega⟩
      obtain ⟨z, rfl, z1, z2⟩ := hv'
      have x47 := ((x4.trans x5).trans (Ex.nil x6)).trans x7
      have hY4 := hY.ex x47
      refine ⟨_, rfl, .inl ⟨rfl, _, SqL.of hY4.ly⟩, _, rfl, _, rfl, b, 2, _, rfl, B7, by omega, by decide, by decide, fun r3 H5 e0 e1 x8 B8 => ?_⟩
      refine ⟨rfl, (by show 2 ≤ sizeLine; decide), fun p2 hp2 => ?_⟩
      have hY5 := hY4.ex x8
      have x9 : Ex [] H5 (upd H5 p2 (.lst [.int z, .bl (decide (V.int r3 = V.int 0))])) := Ex.new hp2
      have hY6 := hY5.ex (Ex.nil x9)
      refine ⟨y, _, _, rfl, rfl, hY6.ly, ?_, ?_⟩
      · rw [List.length_map, hY6.len]
        exact sz_lt (by omega)
      · have hf := hY5.fresh hp2
        refine ⟨as ++ [p2], c ++ [(z, decide (V.int r3 = V.int 0))], _, _, rfl, by rw [List.length_append, lc]; rfl, hY6.push upd_same hf.1 hf.2 (B8.ne hp2), fun d hd => ?_, ?_, ?_, fun a ha => ?_⟩
        · rcases List.mem_append.mp hd with hd | hd
          · exact hc d hd
          · rw [List.mem_singleton.mp hd]
            exact ⟨z1, z2⟩
        · exact ((x3.trans x47).trans (x8.trans (Ex.nil x9))).mutNew' hy
        · refine Bx.ex (B := [y]) (Bx.mono (B8.ex x9 (by simp)) (by omega)) (Ex.mut (by simp)) (by simpa using hby)
        · rcases List.mem_append.mp ha with ha | ha
          · exact hna a ha
          · rw [List.mem_singleton.mp ha]
            exact x3.free (x47.free (x8.free hp2))
    · obtain ⟨as, c, u1, u2, rfl, lc, hY, hc, x3, B3, hna⟩ := hP
      have lc1 : 1 ≤ c.length := by omega
      have lc2 : c.length ≤ 12 := by omega
      have lcB : n + 16 + 100 * (1 + r).toNat ≤ n + 1300 := by omega
      have B3 := B3.mono lcB
      clear lcB
      -- wet, lit
      refine ⟨_, rfl, _, rfl, _, _, rfl, .inl (SqL.of hY.ly), ?_⟩
      rw [List.length_map, hY.len]
      refine ⟨b, _, _, rfl, B3, by omega, by omega, by omega, fun wt H4 wt0 wt1 x4 B4 => ?_⟩
      have hY4 := hY.ex x4
      refine ⟨_, rfl, _, rfl, _, _, rfl, .inl (SqL.of hY4.ly), ?_⟩
      rw [List.length_map, hY.len]
      refine ⟨b, _, _, rfl, B4, by omega, by omega, by omega, fun lt H5 lt0 lt1 x5 B5 => ?_⟩
      have hY5 := hY4.ex x5
      refine ⟨_, _, rfl, ?_⟩
      have x35 := x3.trans (x4.trans x5)
      clear x4 x5 B4 hY4 hY
      obtain ⟨wn, rfl⟩ : ∃ wn : Nat, wt = wn := ⟨wt.toNat, by omega⟩
      obtain ⟨ln, rfl⟩ : ∃ ln : Nat, lt = ln := ⟨lt.toNat, by omega⟩
      have hwn : wn < c.length := by omega
      have hln : ln < c.length := by omega
      obtain ⟨aw, haw, hHw⟩ := hY5.mem hwn
      refine ⟨_, rfl, _, rfl, z_ix (.inl (SqL.of hY5.ly)) (v := .ref aw) (atI_nat (by rw [List.getElem?_map, haw]; rfl)) (z_ixL hHw rfl ⟨_, _, rfl, (by show 2 ≤ sizeLine; decide), fun tp htp => ?_⟩)⟩
      generalize hM : (if (c[wn]'hwn).1 > 1 then (c[wn]'hwn).1 else 1) = M
      have M1 : 1 ≤ M := by rw [← hM]; split <;> omega
      have M2 : M ≤ 10 ^ 11 := by rw [← hM]; have := (hc _ (List.getElem_mem hwn)).2; split <;> omega
      have xt : Ex [] H5 (upd H5 tp (.tup [.int M, .bl true])) := Ex.new htp
      have hYt := hY5.ex (Ex.nil xt)
      refine ⟨tp, _, rfl, SqT.of upd_same, rfl, _, _, rfl, _, rfl, _, rfl, z_ix (.inl (SqL.of hYt.ly)) (v := .ref aw) (atI_nat (by rw [List.getElem?_map, haw]; rfl)) ⟨aw, _, 0, 0, rfl, rfl, xt.1 _ _ (by simp) hHw, rfl, ?_⟩⟩
      have hYw := hYt.set (w := wn) (z := M) (f := (c[wn]'hwn).2) haw
      have hln2 : ln < (c.set wn (M, (c[wn]'hwn).2)).length := by rw [List.length_set]; exact hln
      obtain ⟨al, hal, hHl⟩ := hYw.mem hln2
      refine ⟨_, _, rfl, _, rfl, _, rfl, z_ix (.inl (SqL.of hYw.ly)) (v := .ref al) (atI_nat (by rw [List.getElem?_map, hal]; rfl)) ⟨al, _, 1, 1, rfl, rfl, hHl, rfl, rfl, ?_⟩⟩
      have hYl := hYw.set (w := ln) (z := ((c.set wn (M, (c[wn]'hwn).2))[ln]'hln2).1) (f := true) hal
      have okc := year_fix (f := (c[wn]'hwn).2) (f' := ((c.set wn (M, (c[wn]'hwn).2))[ln]'hln2).2) (d' := ((c.set wn (M, (c[wn]'hwn).2))[ln]'hln2).1) hwn hln hc M1 M2 (List.getElem?_eq_getElem hln2)
      have x6 := ((x35.trans (Ex.nil xt)).mutNew' (o := .lst [.int M, .bl (c[wn]'hwn).2]) (hna aw (List.mem_of_getElem? haw))).mutNew' (o := .lst [.int ((c.set wn (M, (c[wn]'hwn).2))[ln]'hln2).1, .bl true]) (hna al (List.mem_of_getElem? hal))
      have B6 : Bx b (n + 1300 + 16 + 16) (upd (upd (upd H5 tp (.tup [.int M, .bl true])) aw (.lst [.int M, .bl (c[wn]'hwn).2])) al (.lst [.int ((c.set wn (M, (c[wn]'hwn).2))[ln]'hln2).1, .bl true])) := by
        have n1 : b ∉ [aw] := by simpa using fun z : b = aw => hY5.nb (z ▸ List.mem_of_getElem? haw)
        have n2 : b ∉ [al] := by simpa using fun z : b = al => hY5.nb (z ▸ List.mem_of_getElem? hal)
        exact ((B5.ex xt (by simp)).ex (Ex.mut (by simp)) n1).ex (Ex.mut (by simp)) n2
      generalize (c.set wn (M, (c[wn]'hwn).2)).set ln (((c.set wn (M, (c[wn]'hwn).2))[ln]'hln2).1, true) = c2 at hYl okc
      dsimp only [List.set_cons_zero, List.set_cons_succ]
      revert hYl x6 B6
      generalize (upd (upd (upd H5 tp (.tup [.int M, .bl true])) aw (.lst [.int M, .bl (c[wn]'hwn).2])) al (.lst [.int ((c.set wn (M, (c[wn]'hwn).2))[ln]'hln2).1, .bl true])) = H6
      intro x6 B6 hYl
      clear hYw hHl hHw hYt xt htp hY5 B5 x35 x3 hal
      have lc2' := okc.len
      have hW : (c2.map (·.1)).sum ≤ 12 * 10 ^ 11 := by
        have h1 : (c2.map (·.1)).sum ≤ (c2.map (·.1)).length * (10 ^ 11 : Int) := sum_le (by decide) fun x hx => by
          obtain ⟨d, hd, rfl⟩ := List.mem_map.mp hx
          exact (okc.bd d hd).2
        rw [List.length_map, lc2'] at h1
        have : ((c.length : Nat) : Int) * (10 ^ 11 : Int) ≤ 12 * 10 ^ 11 := by omega
        omega
      have hW0 := okc.dr
      walk_at "un"
      -- whole
      refine z_lcL (B := []) (C := []) (xs := as.map V.ref) (fun R r => ⟨_, rfl, r y H6 (Ex.refl _ _) (by rw [wo_nil]; exact SqL.of hYl.ly)⟩)
        (fun i v _ => ∃ d, c2[i]? = some d ∧ v = .int d.1) (fun _ _ => True) (fun H7 x7 => ⟨lcOk0 (by rw [List.length_map, hYl.len]; omega), fun i x _ hx D H8 hD' nB e1 _ tD N hN => ?_, fun D zs H8 hD' hz lz rz e1 _ => ?_⟩)
      · rw [List.getElem?_map] at hx
        obtain ⟨a, ha, rfl⟩ := Option.map_eq_some_iff.mp hx
        have hi : i < c2.length := by rw [← hYl.len]; exact (List.getElem?_eq_some_iff.mp ha).1
        have hHa := (x7.trans e1).1 _ _ (by simp) (hYl.at_ i a _ ha (List.getElem?_eq_getElem hi))
        exact ⟨rfl, _, rfl, z_ixL hHa rfl (hN _ H8 (Ex.refl _ _) ⟨_, List.getElem?_eq_getElem hi, rfl⟩ trivial)⟩
      have ez := ys_ints (f := fun d : Int × Bool => d.1) (by rw [lz, List.length_map, hYl.len]) rz
      refine ⟨D, _, rfl, .inl (SqL.of (by rw [hz, ez])), Nat.zero_le _, fun wl hwl => ⟨_, _, rfl, ?_⟩⟩
      generalize hWe : (c2.map fun d : Int × Bool => d.1).sum = W at hW hW0
      have x8 := (x7.trans e1).trans (Ex.new (o := HO.lst []) hwl)
      have hYn := hYl.ex (Ex.nil (x7.trans e1))
      have hfw := hYn.fresh hwl
      have hYo := hYn.other (o := .lst []) hfw.1 hfw.2
      have B8 := B6.ex x8 (by simp)
      have nwl := (B6.ex (x7.trans e1) (by simp)).ne hwl
      have wl0 : H wl = none := x6.free ((x7.trans e1).free hwl)
      -- wants
      refine ⟨_, rfl, _, rfl, b, size, _, rfl, B8, by omega, s1, by omega, fun r4 H9 r40 r41 x9 B9 => ?_⟩
      refine ⟨_, _, rfl, rfl, _, rfl, by omega, by omega, ?_⟩
      have x69 := (x6.trans (Ex.nil x8)).trans x9
      refine for_range (lo := 0) (n := (1 + r4).toNat) (fun i σ H' => ∃ (ms : List Int) (u1 u2 : Option V), σ = [some (.ref b), some (.int len), some (.int size), some (.int wide), some (.ref y), u1, u2, some (.int wn), some (.int ln), some (.int W), some (.ref wl), none, none] ∧ ms.length = i ∧ H' wl = some (.lst (ms.map V.int)) ∧ (∀ m ∈ ms, 1 ≤ m ∧ m ≤ 10 ^ 14) ∧ YearAt b y as c2 H' ∧ Ex [b] H H' ∧ Bx b (n + 1348 + 100 * i) H')
        ⟨[], _, _, rfl, rfl, x9.1 _ _ (by simpa using nwl) upd_same, by simp, hYo.ex x9, x69, B9.mono (by omega)⟩ (fun i σ H' hi hP => ?_) (fun σ H' hP => ?_)
      · obtain ⟨ms, v1, v2, rfl, lm, hm, hms, hY', x10, B10⟩ := hP
        have hi' : (i : Int) < 1 + r4 := by omega
        refine ⟨_, rfl, .inl ⟨rfl, _, SqL.of hm⟩, _, rfl, _, rfl, _, rfl, _, rfl, _, _, rfl, rfl, .inl ⟨by omega, by omega⟩, (by show 3 ≤ sizeLine; decide), fun p hp => ?_⟩
        have x11 : Ex [] H' (upd H' p (.lst [.int 2, .int W, .int (2 * W)])) := Ex.new hp
        refine ⟨b, p, _, _, rfl, B10.ex x11 (by simp), by omega, sq_new B10 hp, (by show 1 ≤ 3; decide), (by show 3 ≤ 1000; decide), fun v H11 hv x12 B12 => ?_⟩
        have hv' : ∃ z : Int, v = .int z ∧ 1 ≤ z ∧ z ≤ 2 * (12 * 10 ^ 11) + 2 := by
          simp only [List.mem_cons, List.not_mem_nil, or_false] at hv
          rcases hv with rfl | rfl | rfl
          · exact ⟨_, rfl, by decide, by decide⟩
          · exact ⟨_, rfl, by omega, by omega⟩
          · exact ⟨_, rfl, by omega, by omega⟩
        obtain ⟨z, rfl, z1, z2⟩ := hv'
        refine ⟨b, z, _, rfl, B12, by omega, z1, by omega, fun r5 H12 r50 r51 x13 B13 => ?_⟩
        have x14 := ((Ex.nil (B := [b]) x11).trans x12).trans x13
        have hm2 := x14.1 _ _ (by simpa using nwl) hm
        refine ⟨_, _, rfl, rfl, wl, _, _, rfl, rfl, hm2, ?_, ?_⟩
        · rw [List.length_map]; exact sz_lt (by omega)
        · refine ⟨ms ++ [1 + r5], _, _, rfl, by rw [List.length_append, lm]; rfl, by rw [upd_same, List.map_append]; rfl, fun m hm' => ?_, (hY'.ex x14).other hfw.1 hfw.2, (x10.trans x14).mutNew' wl0, ?_⟩
          · rcases List.mem_append.mp hm' with h | h
            · exact hms m h
            · rw [List.mem_singleton.mp h]; omega
          · exact Bx.ex (B := [wl]) (B13.mono (by omega)) (Ex.mut (by simp)) (by simpa using nwl.symm)
      · obtain ⟨ms, v1, v2, rfl, lm, hm, hms, hY', x10, B10⟩ := hP
        have B10 := B10.mono (show n + 1348 + 100 * (1 + r4).toNat ≤ n + 2000 by omega)
        walk_at "un"
        -- cap
        refine ⟨_, rfl, _, rfl, b, 4, _, rfl, B10, by omega, by decide, by decide, fun r6 H11 r60 r61 x11 B11 => ?_⟩
        refine ⟨_, rfl, _, rfl, _, _, rfl, rfl, b, W + 1, _, rfl, B11, by omega, by omega, by omega, fun r7 H12 r70 r71 x12 B12 => ?_⟩
        refine ⟨_, rfl, (by show 4 ≤ sizeLine; decide), fun p hp => ?_⟩
        have x13 : Ex [] H12 (upd H12 p (.lst [.int 0, .int r6, .int r7, .int W])) := Ex.new hp
        refine ⟨b, p, _, _, rfl, B12.ex x13 (by simp), by omega, sq_new B12 hp, (by show 1 ≤ 4; decide), (by show 4 ≤ 1000; decide), fun v H14 hv x14 B14 => ?_⟩
        have hv' : ∃ z : Int, v = .int z ∧ 0 ≤ z ∧ z ≤ 10 ^ 14 := by
          simp only [List.mem_cons, List.not_mem_nil, or_false] at hv
          rcases hv with rfl | rfl | rfl | rfl
          · exact ⟨_, rfl, by decide, by decide⟩
          · exact ⟨_, rfl, by omega, by omega⟩
          · exact ⟨_, rfl, by omega, by omega⟩
          · exact ⟨_, rfl, by omega, by omega⟩
        obtain ⟨z, rfl, z1, z2⟩ := hv'
        have x15 := ((x11.trans x12).trans (Ex.nil x13)).trans x14
        have hY14 := hY'.ex x15
        have hm14 := x15.1 _ _ (by simpa using nwl) hm
        have x16 := x10.trans x15
        -- the tuples
        refine z_lcL (B := [b]) (C := []) (xs := as.map V.ref) (fun R r => ⟨_, rfl, r y H14 (Ex.refl _ _) (SqL.of (wo_of (by simpa using hby.symm) hY14.ly))⟩)
          (fun i v G => ∃ d, c2[i]? = some d ∧ Dp K G v (sq true [.int d.1, .bool d.2])) (fun _ _ => True)
          (fun H15 x17 => ⟨⟨fun a ha hn => ?_, fun _ h => (by cases h), fun i y G G' le ⟨d, h1, h2⟩ => ⟨d, h1, dp_le le _ _ h2⟩, fun _ _ _ _ _ _ _ _ => trivial, trivial, by rw [List.length_map, hY14.len]; omega⟩, fun i x _ hx D2 H16 hD2 nB e1 _ tD N hN => ?_, fun D2 zs2 H16 hD2 hz2 lz2 rz2 e1 _ => ?_⟩)
        · rw [List.mem_singleton.mp ha] at hn
          exact B14.there (x17.2 b hn)
        · rw [List.getElem?_map] at hx
          obtain ⟨a, ha, rfl⟩ := Option.map_eq_some_iff.mp hx
          have hi : i < c2.length := by rw [← hY14.len]; exact (List.getElem?_eq_some_iff.mp ha).1
          have hHa := (x17.trans e1).1 _ _ (by simp) (hY14.at_ i a _ ha (List.getElem?_eq_getElem hi))
          refine ⟨rfl, _, rfl, a, _, rfl, .inl ⟨SqL.of hHa, fun p2 hp2 => ?_⟩⟩
          refine hN _ _ (Ex.new hp2) ⟨_, List.getElem?_eq_getElem hi, ?_⟩ trivial
          have nb2 : p2 ≠ b := fun q => B14.there (x17.2 b (e1.2 b (by rw [← q]; exact hp2)))
          have nD2 : p2 ≠ D2 := fun q => tD (by rw [← q]; exact hp2)
          exact .tup (SqT.of (wo_of (by simp [nb2, nD2]) upd_same)) (.cons (.int _) (.cons (.bl _) .nil))
        · have x18 := x17.trans e1
          refine ⟨D2, zs2, rfl, .inl ⟨SqL.of hz2, fun t1 ht1 => ?_⟩⟩
          have y1 : Ex [] H16 (upd H16 t1 (.tup zs2)) := Ex.new ht1
          refine ⟨_, rfl, wl, _, rfl, .inl ⟨SqL.of (y1.1 _ _ (by simp) (x18.1 _ _ (by simp) hm14)), fun t2 ht2 => ?_⟩⟩
          have y2 : Ex [] (upd H16 t1 (.tup zs2)) (upd (upd H16 t1 (.tup zs2)) t2 (.tup (ms.map V.int))) := Ex.new ht2
          refine ⟨_, rfl, (by show 3 ≤ sizeLine; decide), fun t3 ht3 => ?_⟩
          have y3 : Ex [] (upd (upd H16 t1 (.tup zs2)) t2 (.tup (ms.map V.int))) (upd (upd (upd H16 t1 (.tup zs2)) t2 (.tup (ms.map V.int))) t3 (.tup [.ref t1, .ref t2, .int z])) := Ex.new ht3
          have xa := (x18.trans y1)
          have nb1 : t1 ≠ b := fun q => B14.there (x18.2 b (by rw [← q]; exact ht1))
          have nb2 : t2 ≠ b := fun q => B14.there (xa.2 b (by rw [← q]; exact ht2))
          have nb3 : t3 ≠ b := fun q => B14.there ((xa.trans y2).2 b (by rw [← q]; exact ht3))
          refine q ⟨c2, ms, z⟩ _ _ ⟨by show 1 ≤ c2.length; omega, by show c2.length ≤ 20; omega, fun d hd => ?_, okc.op, by show 0 < (c2.map (·.1)).sum; exact okc.dr, by show 1 ≤ ms.length; omega, by show ms.length ≤ 20; omega, hms, z1, z2⟩ ?_ ((x16.trans (Ex.nil (xa.trans y2))).trans (Ex.nil y3)) ?_
          · have := okc.bd d hd
            exact ⟨this.1, by omega⟩
          · refine .tup (SqT.of (wo_of (by simpa using nb3) upd_same)) (.cons ?_ (.cons ?_ (.cons (.int z) .nil)))
            · refine dp_le (Ex.nil (y2.trans y3)).le _ _ (.tup (SqT.of (wo_of (by simpa using nb1) upd_same)) (dpa_of (by rw [lz2, List.length_map, List.length_map, hY14.len]) fun i v hv => ?_))
              obtain ⟨d, h1, h2⟩ := rz2 i v hv
              exact ⟨_, by rw [List.getElem?_map, h1]; rfl, dp_le (Ex.nil y1).le _ _ h2⟩
            · exact dp_le (Ex.nil y3).le _ _ (.tup (SqT.of (wo_of (by simpa using nb2) upd_same)) (dpa_of_ints ms))
          · exact Bx.mono (B14.ex ((x18.trans y1).trans (y2.trans y3)) (by simp)) (by omega)
end
end Z01
set_option Elab.async false
set_option linter.all false
set_option maxRecDepth 100000
set_option maxHeartbeats 8000000
namespace Z01
open PySem PySem.Spec PyProof.Rows L2 Hz
def numN : PyData → Option Int
  | .int i => if 0 ≤ i then some i else none
  | _ => none
def numD (d : PyData) (l : Int) : Bool := match d with
  | .int i => decide (i ≥ l)
  | _ => false
def tupD (d : PyData) (n : Int) : Bool := match d with
  | .tuple ds => decide (V.int ds.length = V.int n)
  | _ => false
theorem numD_eq (d : PyData) : numD d 0 = (numN d).isSome := by
  cases d with
  | int i =>
    show decide (i ≥ 0) = (if 0 ≤ i then some i else none).isSome
    by_cases c : 0 ≤ i
    · rw [if_pos c]; exact decide_eq_true c
    · rw [if_neg c]; exact decide_eq_false c
  | _ => rfl
theorem numN_some {d : PyData} {i : Int} (e : numN d = some i) : d = .int i ∧ 0 ≤ i := by
  cases d with
  | int j =>
    change (if 0 ≤ j then some j else none) = some i at e
    by_cases c : 0 ≤ j
    · rw [if_pos c] at e; cases e; exact ⟨rfl, c⟩
    · rw [if_neg c] at e; cases e
  | _ => exact nomatch (show (none : Option Int) = some i from e)
section
variable {P : Program} {w : World} {K : PySem.W.Frag} {mg : Str → Option Value} {base : Heap}
local macro_rules | `(tactic| walk_at "un") => `(tactic| dsimp only [tSeq, tIfS, tRet, tAsg, tDrop, tOr, tAnd, tNot, tAndV, tOrV, tNotV, tTest, tB, tOp, tUn, tCB, tCons, tNil, tC, tNext, tIf, tChain, gName, tPar, tPar3, tTup, tLst])
def spNum (K : PySem.W.Frag) : Sp := fun vs H Q _ => ∃ (v : V) (d : PyData) (l : Int), vs = [v, .int l] ∧ Dp K H v d ∧ Q (.bl (numD d l)) H
theorem ok_is_number (T : Txt K mg) : FnOk P w K mg base CX0 1 T.a_is_number T.d_is_number P_is_number (spNum K) := by
  have nd := sc_is_number.nd
  refine T.F_is_number.ok sc_is_number (fun vs H Q E h => ?_) (fun cdv A outer s H vs Q E hr h => ?_)
  · obtain ⟨v, d, l, rfl, _⟩ := h
    rfl
  · obtain ⟨v, d, l, rfl, hD, q⟩ := h
    refine ⟨_, (pss_one (ps_ret (pe_and (pe_callB (isiK K) (by rfl) T.z_isinstance (by decide +kernel) (pa_cons (pv 0) (pa_cons (pe_bltn (by rfl) T.z_int (by decide +kernel) (v := .ty "int") rfl) pa_nil))) (pe_and (pe_not (pe_callB (isiK K) (by rfl) T.z_isinstance (by decide +kernel) (pa_cons (pv 0) (pa_cons (pe_bltn (by rfl) T.z_bool (by decide +kernel) (v := .ty "bool") rfl) pa_nil)))) (pe_one (pe_cmpR op_ge (pv 0) (pv 1) (nomark _))))))), ?_⟩
    walk_at "un"
    refine ⟨_, rfl, z_isi hD (.inr (.inr (.inr (.inl rfl)))) ?_⟩
    cases d with
    | int i =>
      obtain rfl := dp_int hD
      exact ⟨true, rfl, iteT ⟨_, rfl, z_isi hD (.inr (.inr (.inl rfl))) ⟨false, rfl, _, rfl, iteT ⟨_, rfl, _, rfl, _, _, rfl, rfl, q⟩⟩⟩⟩
    | bool b => exact ⟨true, rfl, iteT ⟨_, rfl, z_isi hD (.inr (.inr (.inl rfl))) ⟨true, rfl, _, rfl, iteF q⟩⟩⟩
    | _ => exact ⟨false, rfl, iteF q⟩
def spTup (K : PySem.W.Frag) : Sp := fun vs H Q _ => ∃ (v : V) (d : PyData) (l : Int), vs = [v, .int l] ∧ Dp K H v d ∧ Q (.bl (tupD d l)) H
theorem ok_is_tuple_of (T : Txt K mg) : FnOk P w K mg base CX0 1 T.a_is_tuple_of T.d_is_tuple_of P_is_tuple_of (spTup K) := by
  have nd := sc_is_tuple_of.nd
  refine T.F_is_tuple_of.ok sc_is_tuple_of (fun vs H Q E h => ?_) (fun cdv A outer s H vs Q E hr h => ?_)
  · obtain ⟨v, d, l, rfl, _⟩ := h
    rfl
  · obtain ⟨v, d, l, rfl, hD, q⟩ := h
    refine ⟨_, (pss_one (ps_ret (pe_and (pe_callB (isiK K) (by rfl) T.z_isinstance (by decide +kernel) (pa_cons (pv 0) (pa_cons (pe_bltn (by rfl) T.z_tuple (by decide +kernel) (v := .ty "tuple") rfl) pa_nil))) (pe_one (pe_cmpR op_eq (pe_callB (lenK K) (by rfl) T.z_len (by decide +kernel) (pa_cons (pv 0) pa_nil)) (pv 1) (nomark _)))))), ?_⟩
    walk_at "un"
    refine ⟨_, rfl, z_isi hD (.inr (.inl rfl)) ?_⟩
    cases d with
    | tuple ds =>
      obtain ⟨a, xs, rfl, hS, hA⟩ := dp_tup hD
      refine ⟨true, rfl, iteT ⟨_, rfl, a, xs, rfl, .inr hS, _, rfl, rfl, ?_⟩⟩
      rw [dpa_len hA]
      exact q
    | _ => exact ⟨false, rfl, iteF q⟩
theorem tup_len {ds : List PyData} : tupD (.tuple ds) 3 = decide (ds.length = 3) := by
  show decide (V.int ds.length = V.int 3) = _
  rw [dec_int]
  by_cases c : ds.length = 3
  · rw [c]; rfl
  · rw [decide_eq_false c, beq_eq_false_iff_ne]
    omega
def isB : PyData → Bool
  | .bool _ => true
  | _ => false
def dayD : PyData → Bool
  | .tuple [a, b] => numD a 0 && isB b
  | _ => false
def dropD : PyData → Bool
  | .tuple [.int i, _] => decide (i > 0)
  | _ => false
def openD : PyData → Bool
  | .tuple [_, .bool b] => b
  | _ => false
def yearD : PyData → Bool
  | .tuple ds => ds.all dayD && (ds.any dropD && ds.any openD)
  | _ => false
def ringD : PyData → Bool
  | .tuple ds => decide (0 < ds.length) && ds.all fun d => numD d 1
  | _ => false
def hillD : PyData → Bool
  | .tuple [y, r, m] => yearD y && (ringD r && numD m 0)
  | _ => false
theorem dayD_is {d : PyData} (h : dayD d = true) : ∃ i b, d = .tuple [.int i, .bool b] ∧ 0 ≤ i := by
  match d, h with
  | .tuple [a, b], h =>
    obtain ⟨h1, h2⟩ := Bool.and_eq_true_iff.mp (show (numD a 0 && isB b) = true from h)
    cases a with
    | int i =>
      cases b with
      | bool c => exact ⟨i, c, rfl, of_decide_eq_true h1⟩
      | _ => cases h2
    | _ => cases h1
/-- the answer f of data of any kind -/
def spAny (K : PySem.W.Frag) (f : PyData → Bool) : Sp := fun vs H Q _ => ∃ (v : V) (d : PyData), vs = [v] ∧ Dp K H v d ∧ dpt 20 d ∧ ∀ H', Ex [] H H' → Q (.bl (f d)) H'
theorem ok_is_day (T : Txt K mg) : FnOk P w K mg base CX0 2 T.a_is_day T.d_is_day P_is_day (spAny K dayD) := by
  have nd := sc_is_day.nd
  have G_is_tuple_of := ok_is_tuple_of (P := P) (w := w) (base := base) T
  have G_is_number := ok_is_number (P := P) (w := w) (base := base) T
  refine T.F_is_day.ok sc_is_day (fun vs H Q E h => ?_) (fun cdv A outer s H vs Q E hr h => ?_)
  · obtain ⟨v, d, rfl, _⟩ := h
    rfl
  · obtain ⟨v, d, rfl, hD, _, q⟩ := h
    have hr_is_tuple_of := hr
    have hr_is_number := hr
    have q0 := q H (Ex.refl _ _)
    refine ⟨_, (pss_one (ps_ret (pe_and (pe_call G_is_tuple_of hr_is_tuple_of (by rfl) T.m_is_tuple_of T.k_is_tuple_of T.b_is_tuple_of .nil pass0 (pa_cons (pv 0) (pa_cons pe_int pa_nil))) (pe_and (pe_call G_is_number hr_is_number (by rfl) T.m_is_number T.k_is_number T.b_is_number .nil pass0 (pa_cons (pe_ix (ixK K) (pv 0) pe_int (fun _ _ => rfl)) (pa_cons pe_int pa_nil))) (pe_one (pe_callB (isiK K) (by rfl) T.z_isinstance (by decide +kernel) (pa_cons (pe_ix (ixK K) (pv 0) pe_int (fun _ _ => rfl)) (pa_cons (pe_bltn (by rfl) T.z_bool (by decide +kernel) (v := .ty "bool") rfl) pa_nil)))))))), ?_⟩
    walk_at "un"
    refine ⟨_, rfl, v, d, 2, rfl, hD, _, rfl, ?_⟩
    cases d with
    | tuple ds =>
      by_cases c : ds.length = 2
      · match ds, c with
        | [a, b], _ =>
          refine iteT ⟨_, rfl, z_ixD (t := true) hD (Le.refl _) (j := 0) rfl rfl fun u hu => ⟨u, a, 0, rfl, hu, _, rfl, ?_⟩⟩
          cases e : numD a 0 with
          | false =>
            have z : dayD (.tuple [a, b]) = false := by show (numD a 0 && isB b) = false; rw [e]; rfl
            rw [z] at q0
            exact iteF q0
          | true =>
            refine iteT ⟨_, rfl, z_ixD (t := true) hD (Le.refl _) (j := 1) rfl rfl fun u hu => z_isi hu (.inr (.inr (.inl rfl))) ?_⟩
            have z : dayD (.tuple [a, b]) = isIn (tyN b) "bool" := by
              show (numD a 0 && isB b) = _
              rw [e]
              cases b <;> rfl
            rw [← z]
            exact q0
      · have z : tupD (.tuple ds) 2 = false := by
          show decide (V.int ds.length = V.int 2) = false
          refine decide_eq_false fun z => c ?_
          have : (ds.length : Int) = 2 := by simpa using z
          omega
        rw [z]
        have z2 : dayD (.tuple ds) = false := by
          match ds, c with
          | [], _ => rfl
          | [_], _ => rfl
          | [_, _], c => exact absurd rfl c
          | _ :: _ :: _ :: _, _ => rfl
        rw [z2] at q0
        exact iteF q0
    | _ => exact iteF q0
end
end Z01
set_option Elab.async false
set_option linter.all false
set_option maxRecDepth 100000
set_option maxHeartbeats 8000000
namespace Z01
open PySem PySem.Spec PyProof.Rows L2 Hz
section
variable {P : Program} {w : World} {K : PySem.W.Frag} {mg : Str → Option Value} {base : Heap}
local macro_rules | `(tactic| walk_at "un") => `(tactic| dsimp only [tSeq, tIfS, tRet, tAsg, tDrop, tOr, tAnd, tNot, tAndV, tOrV, tNotV, tTest, tB, tOp, tUn, tCB, tCons, tNil, tC, tNext, tIf, tChain, gName, tPar, tPar3, tTup, tLst])
theorem bls_of {f : PyData → Bool} {ds : List PyData} {zs : List V} (hl : zs.length = ds.length) (h : ∀ (j : Nat) (y : V), zs[j]? = some y → ∃ d, ds[j]? = some d ∧ y = .bl (f d)) : zs = (ds.map f).map V.bl := by
  apply List.ext_getElem?
  intro j
  by_cases c : j < zs.length
  · obtain ⟨d, hd, e⟩ := h j zs[j] (List.getElem?_eq_getElem c)
    rw [List.getElem?_eq_getElem c, List.getElem?_map, List.getElem?_map, hd, e]
    rfl
  · rw [List.getElem?_eq_none (by omega), List.getElem?_eq_none (by rw [List.length_map, List.length_map]; omega)]
theorem dpt_len {n : Nat} {ds : List PyData} (h : dpt (n + 1) (.tuple ds)) : ds.length ≤ 1000 := h.1
theorem dpt_up : ∀ {n m : Nat} {d : PyData}, dpt n d → n ≤ m → dpt m d
  | 0, 0, _, h, _ => h
  | 0, m + 1, d, h, _ => by cases d <;> first | exact h.elim | trivial
  | n + 1, 0, _, _, l => by omega
  | n + 1, m + 1, d, h, l => by
    cases d with
    | list ds => exact ⟨h.1, fun e he => dpt_up (h.2 e he) (by omega)⟩
    | tuple ds => exact ⟨h.1, fun e he => dpt_up (h.2 e he) (by omega)⟩
    | dict _ => exact h.elim
    | _ => trivial
/-- the answers of a comprehension over a tuple -/
theorem z_lcF {tl : TE} {g : TG} {te : TE} {vs : List Nat} {σ : L2.St} {H : Hp} {a : Addr} {xs : List V} {ds : List PyData} {f : PyData → Bool} {Q : VK} (hS : SqT K H a xs) (hA : DpAll K H xs ds) (hl : ds.length ≤ 1000) (htl : ∀ R : VK, R (.ref a) H → tl σ H R)
    (turn : ∀ (i : Nat) (x : V) (d : PyData), ds[i]? = some d → ∀ H' N, Ex [] H H' → Dp K H' x d → (∀ H3, Ex [] H' H3 → N (.bl (f d)) H3) → g x (wipe σ vs) H' fun σ2 H2 => wipe σ2 vs = wipe σ vs ∧ te σ2 H2 N)
    (fin : ∀ D H', Ex [] H H' → SqL K H' D ((ds.map f).map V.bl) → Q (.ref D) H') : tLc (fun σ H R => iList K tl σ H R ∨ iTup K tl σ H R) g tYes te vs σ H Q := by
  have lx0 := dpa_len hA
  refine z_lcS (B := []) (C := []) (t := true) (xs := xs) (fun R r => htl _ (r a H (Ex.refl _ _) (by rw [wo_nil]; exact hS))) (fun j z _ => ∃ d, ds[j]? = some d ∧ z = .bl (f d)) (fun _ _ => True)
    (fun H1 x1 => ⟨lcOk0 (by omega), fun i y _ hy D H' hD' nB e1 _ tD N hN => ?_, fun D zs H' hD' hz lz rz e1 _ => ?_⟩)
  · obtain ⟨d, hd, hyD⟩ := dpa_get' hA hy
    exact turn i y d hd H' N (x1.trans e1) (dp_le (x1.trans e1).le0 _ _ hyD) fun H3 e3 => hN _ H3 e3 ⟨d, hd, rfl⟩ trivial
  · have ez := bls_of (f := f) (ds := ds) (by omega) rz
    exact fin D H' (x1.trans e1) (SqL.of (by rw [hz, ez]))
theorem ok_is_year (T : Txt K mg) : FnOk P w K mg base CX0 3 T.a_is_year T.d_is_year P_is_year (spAny K yearD) := by
  have nd := sc_is_year.nd
  have G_is_day := ok_is_day (P := P) (w := w) (base := base) T
  refine T.F_is_year.ok sc_is_year (fun vs H Q E h => ?_) (fun cdv A outer s H vs Q E hr h => ?_)
  · obtain ⟨v, d, rfl, _⟩ := h
    rfl
  · obtain ⟨v, d, rfl, hD, hdp, q⟩ := h
    have hr_is_day := hr
    refine ⟨_, (pss_cons (ps_if (PW.pt (pw_or (pt_not (pt_val (pe_callB (isiK K) (by rfl) T.z_isinstance (by decide +kernel) (pa_cons (pv 0) (pa_cons (pe_bltn (by rfl) T.z_tuple (by decide +kernel) (v := .ty "tuple") rfl) pa_nil))))) (pw_or1 (pt_not (pt_val (pe_callB (allK K) (by rfl) T.z_all (by decide +kernel) (pa_cons (pe_lc (own := [("day", 1)]) (by rfl) nd (pi_seqK K (pv 0)) (blkOk_by (N := N_is_year) (own := [("day", 1)]) (sc := defScope s_is_year) (by decide +kernel)) (fun _ _ _ _ _ => pg_name (i := 1) nd rfl (Or.inl rfl)) (fun _ _ _ _ _ => pts_nil) (fun _ _ _ _ _ => (pe_call G_is_day hr_is_day (by rfl) T.m_is_day T.k_is_day T.b_is_day .nil pass0 (pa_cons (pv 1) pa_nil)))) pa_nil))))))) (pss_one (ps_ret pe_bl)) pss_nil)
      (pss_one (ps_ret (pe_and (pe_callB (anyK K) (by rfl) T.z_any (by decide +kernel) (pa_cons (pe_lc (own := [("day", 1)]) (by rfl) nd (pi_seqK K (pv 0)) (blkOk_by (N := N_is_year) (own := [("day", 1)]) (sc := defScope s_is_year) (by decide +kernel)) (fun _ _ _ _ _ => pg_name (i := 1) nd rfl (Or.inl rfl)) (fun _ _ _ _ _ => pts_nil) (fun _ _ _ _ _ => (pe_cmpR op_gt (pe_ix (ixK K) (pv 1) pe_int (fun _ _ => rfl)) pe_int (nomark _)))) pa_nil)) (pe_one (pe_callB (anyK K) (by rfl) T.z_any (by decide +kernel) (pa_cons (pe_lc (own := [("day", 1)]) (by rfl) nd (pi_seqK K (pv 0)) (blkOk_by (N := N_is_year) (own := [("day", 1)]) (sc := defScope s_is_year) (by decide +kernel)) (fun _ _ _ _ _ => pg_name (i := 1) nd rfl (Or.inl rfl)) (fun _ _ _ _ _ => pts_nil) (fun _ _ _ _ _ => (pe_ix (ixK K) (pv 1) pe_int (fun _ _ => rfl)))) pa_nil))))))), ?_⟩
    walk_at "un"
    refine ⟨_, rfl, z_isi hD (.inr (.inl rfl)) ?_⟩
    cases d with
    | tuple ds =>
      obtain ⟨a, xs, rfl, hS, hA⟩ := dp_tup hD
      have hl := dpt_len hdp
      refine ⟨true, rfl, iteF ?_⟩
      refine z_lcF hS hA hl (fun R r => ⟨_, rfl, r⟩) (f := dayD) (fun i x d hd H' N x1 hx k => ⟨rfl, _, rfl, x, d, rfl, hx, dpt_up (hdp.2 d (List.mem_of_getElem? hd)) (by decide), fun H3 e3 => k H3 e3⟩) fun D H1 x1 hz => ?_
      refine ⟨D, ds.map dayD, rfl, hz, _, rfl, ?_⟩
      rw [List.all_map]
      show if (!(ds.all (id ∘ dayD))) = true then _ else _
      rw [Function.id_comp]
      cases e : ds.all dayD with
      | false =>
        have z : yearD (.tuple ds) = false := by show (ds.all dayD && _) = false; rw [e]; rfl
        have := q H1 x1
        rw [z] at this
        exact iteT this
      | true =>
        refine iteF ?_
        have all : ∀ d ∈ ds, dayD d = true := fun d hd => List.all_eq_true.mp e d hd
        have hS1 := le_t x1.le0 hS
        have hA1 := dpa_le x1.le0 _ _ hA
        refine z_lcF hS1 hA1 hl (fun R r => ⟨_, rfl, r⟩) (f := dropD) (fun i x d hd H' N x2 hx k => ?_) fun D2 H2 x2 hz2 => ?_
        · obtain ⟨i0, b0, rfl, _⟩ := dayD_is (all d (List.mem_of_getElem? hd))
          refine ⟨rfl, _, rfl, z_ixD (t := true) hx (Le.refl _) (j := 0) rfl rfl fun u hu => ?_⟩
          obtain rfl := dp_int hu
          exact ⟨_, _, rfl, rfl, k H' (Ex.refl _ _)⟩
        refine ⟨D2, ds.map dropD, rfl, hz2, _, rfl, ?_⟩
        rw [List.any_map]
        show if (ds.any (id ∘ dropD)) = true then _ else _
        rw [Function.id_comp]
        cases e2 : ds.any dropD with
        | false =>
          have z : yearD (.tuple ds) = false := by show (ds.all dayD && (ds.any dropD && _)) = false; rw [e, e2]; rfl
          have := q H2 (x1.trans x2)
          rw [z] at this
          exact iteF this
        | true =>
          refine iteT ?_
          refine z_lcF (le_t x2.le0 hS1) (dpa_le x2.le0 _ _ hA1) hl (fun R r => ⟨_, rfl, r⟩) (f := openD) (fun i x d hd H' N x3 hx k => ?_) fun D3 H3 x3 hz3 => ?_
          · obtain ⟨i0, b0, rfl, _⟩ := dayD_is (all d (List.mem_of_getElem? hd))
            refine ⟨rfl, _, rfl, z_ixD (t := true) hx (Le.refl _) (j := 1) rfl rfl fun u hu => ?_⟩
            obtain rfl := dp_bl hu
            exact k H' (Ex.refl _ _)
          refine ⟨D3, ds.map openD, rfl, hz3, ?_⟩
          rw [List.any_map]
          have z : yearD (.tuple ds) = ds.any (id ∘ openD) := by show (ds.all dayD && (ds.any dropD && ds.any openD)) = _; rw [e, e2]; rfl
          rw [← z]
          exact q H3 ((x1.trans x2).trans x3)
    | _ => exact ⟨false, rfl, iteT (q H (Ex.refl _ _))⟩
theorem ok_is_ring (T : Txt K mg) : FnOk P w K mg base CX0 2 T.a_is_ring T.d_is_ring P_is_ring (spAny K ringD) := by
  have nd := sc_is_ring.nd
  have G_is_number := ok_is_number (P := P) (w := w) (base := base) T
  refine T.F_is_ring.ok sc_is_ring (fun vs H Q E h => ?_) (fun cdv A outer s H vs Q E hr h => ?_)
  · obtain ⟨v, d, rfl, _⟩ := h
    rfl
  · obtain ⟨v, d, rfl, hD, hdp, q⟩ := h
    have hr_is_number := hr
    refine ⟨_, (pss_one (ps_ret (pe_and (pe_callB (isiK K) (by rfl) T.z_isinstance (by decide +kernel) (pa_cons (pv 0) (pa_cons (pe_bltn (by rfl) T.z_tuple (by decide +kernel) (v := .ty "tuple") rfl) pa_nil))) (pe_and (pe_cmpR op_gt (pe_callB (lenK K) (by rfl) T.z_len (by decide +kernel) (pa_cons (pv 0) pa_nil)) pe_int (nomark _)) (pe_one (pe_callB (allK K) (by rfl) T.z_all (by decide +kernel) (pa_cons (pe_lc (own := [("need", 1)]) (by rfl) nd (pi_seqK K (pv 0)) (blkOk_by (N := N_is_ring) (own := [("need", 1)]) (sc := defScope s_is_ring) (by decide +kernel)) (fun _ _ _ _ _ => pg_name (i := 1) nd rfl (Or.inl rfl)) (fun _ _ _ _ _ => pts_nil) (fun _ _ _ _ _ => (pe_call G_is_number hr_is_number (by rfl) T.m_is_number T.k_is_number T.b_is_number .nil pass0 (pa_cons (pv 1) (pa_cons pe_int pa_nil))))) pa_nil))))))), ?_⟩
    walk_at "un"
    refine ⟨_, rfl, z_isi hD (.inr (.inl rfl)) ?_⟩
    cases d with
    | tuple ds =>
      obtain ⟨a, xs, rfl, hS, hA⟩ := dp_tup hD
      have hl := dpt_len hdp
      have lx0 := dpa_len hA
      refine ⟨true, rfl, iteT ⟨_, rfl, a, xs, rfl, .inr hS, _, _, rfl, rfl, _, rfl, ?_⟩⟩
      rw [lx0]
      by_cases c : 0 < ds.length
      · rw [decide_eq_true (show (0 : Int) < (ds.length : Int) by omega)]
        refine iteT ?_
        refine z_lcF hS hA hl (fun R r => ⟨_, rfl, r⟩) (f := fun d => numD d 1) (fun i x d hd H' N x1 hx k => ⟨rfl, _, rfl, x, d, 1, rfl, hx, k H' (Ex.refl _ _)⟩) fun D H1 x1 hz => ?_
        refine ⟨D, ds.map fun d => numD d 1, rfl, hz, ?_⟩
        rw [List.all_map]
        have z : ringD (.tuple ds) = ds.all (id ∘ fun d => numD d 1) := by show (decide (0 < ds.length) && _) = _; rw [decide_eq_true c]; rfl
        rw [← z]
        exact q H1 x1
      · rw [decide_eq_false (show ¬ (0 : Int) < (ds.length : Int) by omega)]
        have z : ringD (.tuple ds) = false := by show (decide (0 < ds.length) && _) = false; rw [decide_eq_false c]; rfl
        have := q H (Ex.refl _ _)
        rw [z] at this
        exact iteF this
    | _ => exact ⟨false, rfl, iteF (q H (Ex.refl _ _))⟩
theorem ok_is_hill (T : Txt K mg) : FnOk P w K mg base CX0 4 T.a_is_hill T.d_is_hill P_is_hill (spAny K hillD) := by
  have nd := sc_is_hill.nd
  have G_is_tuple_of := ok_is_tuple_of (P := P) (w := w) (base := base) T
  have G_is_number := ok_is_number (P := P) (w := w) (base := base) T
  have G_is_year := ok_is_year (P := P) (w := w) (base := base) T
  have G_is_ring := ok_is_ring (P := P) (w := w) (base := base) T
  refine T.F_is_hill.ok sc_is_hill (fun vs H Q E h => ?_) (fun cdv A outer s H vs Q E hr h => ?_)
  · obtain ⟨v, d, rfl, _⟩ := h
    rfl
  · obtain ⟨v, d, rfl, hD, hdp, q⟩ := h
    have hr_is_tuple_of := hr.mono (show 1 ≤ 3 by decide)
    have hr_is_number := hr.mono (show 1 ≤ 3 by decide)
    have hr_is_year := hr
    have hr_is_ring := hr.mono (show 2 ≤ 3 by decide)
    have q0 := q H (Ex.refl _ _)
    refine ⟨_, (pss_one (ps_ret (pe_and (pe_call G_is_tuple_of hr_is_tuple_of (by rfl) T.m_is_tuple_of T.k_is_tuple_of T.b_is_tuple_of .nil pass0 (pa_cons (pv 0) (pa_cons pe_int pa_nil))) (pe_and (pe_call G_is_year hr_is_year (by rfl) T.m_is_year T.k_is_year T.b_is_year .nil pass0 (pa_cons (pe_ix (ixK K) (pv 0) pe_int (fun _ _ => rfl)) pa_nil)) (pe_and (pe_call G_is_ring hr_is_ring (by rfl) T.m_is_ring T.k_is_ring T.b_is_ring .nil pass0 (pa_cons (pe_ix (ixK K) (pv 0) pe_int (fun _ _ => rfl)) pa_nil)) (pe_one (pe_call G_is_number hr_is_number (by rfl) T.m_is_number T.k_is_number T.b_is_number .nil pass0 (pa_cons (pe_ix (ixK K) (pv 0) pe_int (fun _ _ => rfl)) (pa_cons pe_int pa_nil))))))))), ?_⟩
    walk_at "un"
    refine ⟨_, rfl, v, d, 3, rfl, hD, _, rfl, ?_⟩
    cases d with
    | tuple ds =>
      rw [tup_len]
      by_cases c : ds.length = 3
      · rw [decide_eq_true c]
        match ds, c, hdp with
        | [y, r, m], _, hdp =>
          have dy := dpt_up (m := 20) (hdp.2 y (by simp)) (by decide)
          have dr := dpt_up (m := 20) (hdp.2 r (by simp)) (by decide)
          refine iteT ⟨_, rfl, z_ixD (t := true) hD (Le.refl _) (j := 0) rfl rfl fun u hu => ⟨u, y, rfl, hu, dy, fun H1 x1 => ⟨_, rfl, ?_⟩⟩⟩
          have hD1 := dp_le x1.le0 _ _ hD
          cases e : yearD y with
          | false =>
            have z : hillD (.tuple [y, r, m]) = false := by show (yearD y && _) = false; rw [e]; rfl
            have := q H1 x1
            rw [z] at this
            exact iteF this
          | true =>
          refine iteT ⟨_, rfl, z_ixD (t := true) hD1 (Le.refl _) (j := 1) rfl rfl fun u hu => ⟨u, r, rfl, hu, dr, fun H2 x2 => ⟨_, rfl, ?_⟩⟩⟩
          have hD2 := dp_le x2.le0 _ _ hD1
          cases e2 : ringD r with
          | false =>
            have z : hillD (.tuple [y, r, m]) = false := by show (yearD y && (ringD r && _)) = false; rw [e, e2]; rfl
            have := q H2 (x1.trans x2)
            rw [z] at this
            exact iteF this
          | true =>
          refine iteT ⟨_, rfl, z_ixD (t := true) hD2 (Le.refl _) (j := 2) rfl rfl fun u hu => ⟨u, m, 0, rfl, hu, ?_⟩⟩
          have z : hillD (.tuple [y, r, m]) = numD m 0 := by show (yearD y && (ringD r && numD m 0)) = _; rw [e, e2]; rfl
          rw [← z]
          exact q H2 (x1.trans x2)
      · rw [decide_eq_false c]
        have z : hillD (.tuple ds) = false := by
          match ds, c with
          | [], _ => rfl
          | [_], _ => rfl
          | [_, _], _ => rfl
          | [_, _, _], c => exact absurd rfl c
          | _ :: _ :: _ :: _ :: _, _ => rfl
        rw [z] at q0
        exact iteF q0
    | _ => exact iteF q0
end
end Z01
set_option Elab.async false
set_option linter.all false
set_option maxRecDepth 100000
set_option maxHeartbeats 8000000
namespace Z01
open PySem PySem.Spec PyProof.Rows L2 Hz
section
variable {P : Program} {w : World} {K : PySem.W.Frag} {mg : Str → Option Value} {base : Heap}
local macro_rules | `(tactic| walk_at "un") => `(tactic| dsimp only [tSeq, tIfS, tRet, tAsg, tDrop, tOr, tAnd, tNot, tAndV, tOrV, tNotV, tTest, tB, tOp, tUn, tCB, tCons, tNil, tC, tNext, tIf, tChain, gName, tPar, tPar3, tTup, tLst])
def spCount (K : PySem.W.Frag) : Sp := fun vs H Q _ => ∃ (v : V) (d : PyData), vs = [v] ∧ Dp K H v d ∧ Q (.bl (numD d 0)) H
theorem ok_is_count (T : Txt K mg) : FnOk P w K mg base CX0 1 T.a__law_is_count T.d__law_is_count P__law_is_count (spCount K) := by
  have nd := sc__law_is_count.nd
  refine T.F__law_is_count.ok sc__law_is_count (fun vs H Q E h => ?_) (fun cdv A outer s H vs Q E hr h => ?_)
  · obtain ⟨v, d, rfl, _⟩ := h
    rfl
  · obtain ⟨v, d, rfl, hD, q⟩ := h
    refine ⟨_, (pss_one (ps_ret (pe_and (pe_callB (isiK K) (by rfl) T.z_isinstance (by decide +kernel) (pa_cons (pv 0) (pa_cons (pe_bltn (by rfl) T.z_int (by decide +kernel) (v := .ty "int") rfl) pa_nil))) (pe_and (pe_not (pe_callB (isiK K) (by rfl) T.z_isinstance (by decide +kernel) (pa_cons (pv 0) (pa_cons (pe_bltn (by rfl) T.z_bool (by decide +kernel) (v := .ty "bool") rfl) pa_nil)))) (pe_one (pe_cmpR op_ge (pv 0) pe_int (nomark _))))))), ?_⟩
    walk_at "un"
    refine ⟨_, rfl, z_isi hD (.inr (.inr (.inr (.inl rfl)))) ?_⟩
    cases d with
    | int i =>
      obtain rfl := dp_int hD
      exact ⟨true, rfl, iteT ⟨_, rfl, z_isi hD (.inr (.inr (.inl rfl))) ⟨false, rfl, _, rfl, iteT ⟨_, rfl, _, _, rfl, rfl, q⟩⟩⟩⟩
    | bool b => exact ⟨true, rfl, iteT ⟨_, rfl, z_isi hD (.inr (.inr (.inl rfl))) ⟨true, rfl, _, rfl, iteF q⟩⟩⟩
    | _ => exact ⟨false, rfl, iteF q⟩
def spWant (K : PySem.W.Frag) : Sp := fun vs H Q _ => ∃ (v : V) (d : PyData), vs = [v] ∧ Dp K H v d ∧ dpt 20 d ∧ (∀ y r m, d = .tuple [y, r, m] → SeqAt.shaped r = true) ∧ ∀ H', Ex [] H H' → Q (.bl (hillD d)) H'
theorem hill_len {ds : List PyData} (c : ds.length ≠ 3) : hillD (.tuple ds) = false := by
  match ds, c with
  | [], _ => rfl
  | [_], _ => rfl
  | [_, _], _ => rfl
  | [_, _, _], c => exact absurd rfl c
  | _ :: _ :: _ :: _ :: _, _ => rfl
def dripD : PyData → Int
  | .tuple [.int i, _] => i
  | _ => 0
theorem drip_any {ys : List PyData} (all : ∀ d ∈ ys, dayD d = true) : decide (0 < (ys.map dripD).sum) = ys.any dropD := by
  have key : 0 ≤ (ys.map dripD).sum ∧ decide (0 < (ys.map dripD).sum) = ys.any dropD := by
    induction ys with
    | nil => exact ⟨by simp, rfl⟩
    | cons d ys ih =>
      obtain ⟨h1, h2⟩ := ih fun e he => all e (List.mem_cons_of_mem _ he)
      obtain ⟨i, b, rfl, hi⟩ := dayD_is (all d (by simp))
      rw [List.map_cons, List.sum_cons, List.any_cons, ← h2]
      show 0 ≤ i + (ys.map dripD).sum ∧ decide (0 < i + (ys.map dripD).sum) = (decide (i > 0) || decide (0 < (ys.map dripD).sum))
      refine ⟨by omega, ?_⟩
      by_cases c : i > 0
      · rw [decide_eq_true (show 0 < i + (ys.map dripD).sum by omega), decide_eq_true c]; rfl
      · obtain rfl : i = 0 := by omega
        rw [Int.zero_add, decide_eq_false c, Bool.false_or]
  exact key.2
theorem ok_wanted (T : Txt K mg) : FnOk P w K mg base CX0 2 T.a__law_wanted T.d__law_wanted P__law_wanted (spWant K) := by
  have nd := sc__law_wanted.nd
  have G__law_is_count := ok_is_count (P := P) (w := w) (base := base) T
  refine T.F__law_wanted.ok sc__law_wanted (fun vs H Q E h => ?_) (fun cdv A outer s H vs Q E hr h => ?_)
  · obtain ⟨v, d, rfl, _⟩ := h
    rfl
  · obtain ⟨v, d, rfl, hD, hdp, hsh, q⟩ := h
    have hr__law_is_count := hr
    refine ⟨_, (pss_cons (ps_if (PW.pt (pw_or (pt_not (pt_val (pe_callB (isiK K) (by rfl) T.z_isinstance (by decide +kernel) (pa_cons (pv 0) (pa_cons (pe_bltn (by rfl) T.z_tuple (by decide +kernel) (v := .ty "tuple") rfl) pa_nil))))) (pw_or (pt_cmpR op_ne (pe_callB (lenK K) (by rfl) T.z_len (by decide +kernel) (pa_cons (pv 0) pa_nil)) pe_int (nomark _)) (pw_or1 (pt_not (pt_val (pe_call G__law_is_count hr__law_is_count (by rfl) T.m__law_is_count T.k__law_is_count T.b__law_is_count .nil pass0 (pa_cons (pe_ix (ixK K) (pv 0) pe_int (fun _ _ => rfl)) pa_nil)))))))) (pss_one (ps_ret pe_bl)) pss_nil)
      (pss_cons (ps_if (PW.pt (pw_or (pt_not (pt_val (pe_callB (isiK K) (by rfl) T.z_isinstance (by decide +kernel) (pa_cons (pe_ix (ixK K) (pv 0) pe_int (fun _ _ => rfl)) (pa_cons (pe_bltn (by rfl) T.z_tuple (by decide +kernel) (v := .ty "tuple") rfl) pa_nil))))) (pw_or (pt_not (pt_val (pe_callB (isiK K) (by rfl) T.z_isinstance (by decide +kernel) (pa_cons (pe_ix (ixK K) (pv 0) pe_int (fun _ _ => rfl)) (pa_cons (pe_bltn (by rfl) T.z_tuple (by decide +kernel) (v := .ty "tuple") rfl) pa_nil))))) (pw_or1 (pt_cmpR (eqDK K hr.units) (pe_ix (ixK K) (pv 0) pe_int (fun _ _ => rfl)) (pe_tup pa_nil) (nomark _)))))) (pss_one (ps_ret pe_bl)) pss_nil)
      (pss_cons (ps_for PassesOwn.never rfl (pi_seqK K (pe_ix (ixK K) (pv 0) pe_int (fun _ _ => rfl))) (pg_name (i := 1) nd rfl (Or.inl rfl)) (pss_cons (ps_if (PW.pt (pw_or (pt_not (pt_val (pe_callB (isiK K) (by rfl) T.z_isinstance (by decide +kernel) (pa_cons (pv 1) (pa_cons (pe_bltn (by rfl) T.z_tuple (by decide +kernel) (v := .ty "tuple") rfl) pa_nil))))) (pw_or1 (pt_cmpR op_ne (pe_callB (lenK K) (by rfl) T.z_len (by decide +kernel) (pa_cons (pv 1) pa_nil)) pe_int (nomark _))))) (pss_one (ps_ret pe_bl)) pss_nil)
      (pss_one (ps_if (PW.pt (pw_or (pt_not (pt_val (pe_call G__law_is_count hr__law_is_count (by rfl) T.m__law_is_count T.k__law_is_count T.b__law_is_count .nil pass0 (pa_cons (pe_ix (ixK K) (pv 1) pe_int (fun _ _ => rfl)) pa_nil)))) (pw_or1 (pt_not (pt_val (pe_callB (isiK K) (by rfl) T.z_isinstance (by decide +kernel) (pa_cons (pe_ix (ixK K) (pv 1) pe_int (fun _ _ => rfl)) (pa_cons (pe_bltn (by rfl) T.z_bool (by decide +kernel) (v := .ty "bool") rfl) pa_nil)))))))) (pss_one (ps_ret pe_bl)) pss_nil))))
      (pss_cons (ps_if (pt_not (pt_val (pe_callB (allK K) (by rfl) T.z_all (by decide +kernel) (pa_cons (pe_lc (own := [("_law_want", 2)]) (by rfl) nd (pi_seqK K (pe_ix (ixK K) (pv 0) pe_int (fun _ _ => rfl))) (blkOk_by (N := N__law_wanted) (own := [("_law_want", 2)]) (sc := defScope s__law_wanted) (by decide +kernel)) (fun _ _ _ _ _ => pg_name (i := 2) nd rfl (Or.inl rfl)) (fun _ _ _ _ _ => pts_nil) (fun _ _ _ _ _ => (pe_and (pe_call G__law_is_count hr__law_is_count (by rfl) T.m__law_is_count T.k__law_is_count T.b__law_is_count .nil pass0 (pa_cons (pv 2) pa_nil)) (pe_one (pe_cmpR op_gt (pv 2) pe_int (nomark _)))))) pa_nil)))) (pss_one (ps_ret pe_bl)) pss_nil)
      (pss_one (ps_ret (pe_and (pe_cmpR op_gt (pe_callB (sumK K) (by rfl) T.z_sum (by decide +kernel) (pa_cons (pe_lc (own := [("_law_pair", 1)]) (by rfl) nd (pi_seqK K (pe_ix (ixK K) (pv 0) pe_int (fun _ _ => rfl))) (blkOk_by (N := N__law_wanted) (own := [("_law_pair", 1)]) (sc := defScope s__law_wanted) (by decide +kernel)) (fun _ _ _ _ _ => pg_name (i := 1) nd rfl (Or.inl rfl)) (fun _ _ _ _ _ => pts_nil) (fun _ _ _ _ _ => (pe_ix (ixK K) (pv 1) pe_int (fun _ _ => rfl)))) pa_nil)) pe_int (nomark _)) (pe_one (pe_cmpR (inK K) pe_bl (pe_lc (own := [("_law_pair", 1)]) (by rfl) nd (pi_seqK K (pe_ix (ixK K) (pv 0) pe_int (fun _ _ => rfl))) (blkOk_by (N := N__law_wanted) (own := [("_law_pair", 1)]) (sc := defScope s__law_wanted) (by decide +kernel)) (fun _ _ _ _ _ => pg_name (i := 1) nd rfl (Or.inl rfl)) (fun _ _ _ _ _ => pts_nil) (fun _ _ _ _ _ => (pe_ix (ixK K) (pv 1) pe_int (fun _ _ => rfl)))) (by rfl)))))))))), ?_⟩
    walk_at "un"
    have bad : ∀ H', Ex [] H H' → hillD d = false → Q (.bl false) H' := fun H' e z => by
      rw [← z]
      exact q H' e
    refine ⟨_, rfl, z_isi hD (.inr (.inl rfl)) ?_⟩
    cases d with
    | tuple ds =>
      obtain ⟨va, vx, rfl, hS, hA⟩ := dp_tup hD
      refine ⟨true, rfl, iteF ⟨_, rfl, va, vx, rfl, .inr hS, rfl, _, rfl, ?_⟩⟩
      rw [dpa_len hA]
      by_cases c : ds.length = 3
      · rw [c]
        refine iteF ?_
        match ds, c, hdp with
        | [y, r, m], _, hdp =>
        refine ⟨_, rfl, z_ixD (t := true) hD (Le.refl _) (j := 2) rfl rfl fun u hu => ⟨u, m, rfl, hu, _, rfl, ?_⟩⟩
        cases em : numD m 0 with
        | false =>
          refine iteT (bad H (Ex.refl _ _) ?_)
          show (yearD y && (ringD r && numD m 0)) = false
          rw [em, Bool.and_false, Bool.and_false]
        | true =>
        refine iteF ?_
        refine ⟨_, rfl, z_ixD (t := true) hD (Le.refl _) (j := 0) rfl rfl fun u hu => z_isi hu (.inr (.inl rfl)) ?_⟩
        cases y with
        | tuple ys =>
          refine ⟨true, rfl, iteF ?_⟩
          refine ⟨_, rfl, z_ixD (t := true) hD (Le.refl _) (j := 1) rfl rfl fun u2 hu2 => z_isi hu2 (.inr (.inl rfl)) ?_⟩
          cases r with
          | tuple rs =>
            refine ⟨true, rfl, iteF ?_⟩
            refine ⟨_, rfl, z_ixD (t := true) hD (Le.refl _) (j := 1) rfl rfl fun u3 hu3 => ⟨Nat.zero_le _, fun p0 hp0 => ?_⟩⟩
            have x0 := Ex.new (B := []) (o := .tup []) hp0
            refine ⟨.tuple rs, .tuple [], dp_le x0.le0 _ _ hu3, .tup (SqT.of upd_same) .nil, hsh _ _ _ rfl, by decide, _, rfl, ?_⟩
            have ee : PyData.eqv (.tuple rs) (.tuple []) = decide (¬ 0 < rs.length) := by
              cases rs with
              | nil => rfl
              | cons a b => rfl
            rw [ee]
            by_cases cr : 0 < rs.length
            · rw [decide_eq_false (by omega)]
              refine iteF ?_
              cases hA with | cons g1 hA => cases hA with | cons g2 hA => cases hA with | cons g3 hA =>
              cases hA
              obtain ⟨ay, yx, rfl, hyS, hyA⟩ := dp_tup g1
              obtain ⟨ar, rx, rfl, hrS, hrA⟩ := dp_tup g2
              have dy := dpt_len (hdp.2 (.tuple ys) (by simp))
              have dr := dpt_len (hdp.2 (.tuple rs) (by simp))
              have noday : ∀ d ∈ ys, dayD d = false → hillD (.tuple [.tuple ys, .tuple rs, m]) = false := fun d hd e => by
                have : ys.all dayD = false := by
                  rw [List.all_eq_false]
                  exact ⟨d, hd, by rw [e]; exact Bool.false_ne_true⟩
                show ((ys.all dayD && _) && _) = false
                rw [this]; rfl
              have lyx := dpa_len hyA
              refine z_forS (B := []) (xs := yx) (.inr (by rw [wo_nil]; exact le_t x0.le0 hyS)) (fun R r => ⟨_, rfl, z_ix (.inr (le_t x0.le0 hS)) (v := .ref ay) rfl r⟩)
                (fun j σ H' => (∃ w1 : Option V, σ = [some (.ref va), w1, none]) ∧ Ex [] (upd H p0 (.tup [])) H' ∧ ∀ (i : Nat) d, i < j → ys[i]? = some d → dayD d = true)
                ⟨⟨_, rfl⟩, Ex.refl _ _, fun i d h => absurd h (Nat.not_lt_zero _)⟩ (fun j σ H' hP => hP.2.1) (fun j x σ H' hx hP => ?_) (fun σ H' hP => ?_)
              · obtain ⟨⟨w1, rfl⟩, x1, all⟩ := hP
                obtain ⟨d, hd, hxD⟩ := dpa_get' hyA hx
                have x01 := x0.trans x1
                have hxD := dp_le x01.le0 _ _ hxD
                have hm := List.mem_of_getElem? hd
                walk_at "un"
                have no : dayD d = false → Q (.bl false) H' := fun e => bad H' x01 (noday d hm e)
                refine ⟨_, rfl, z_isi hxD (.inr (.inl rfl)) ?_⟩
                cases d with
                | tuple ps =>
                  obtain ⟨pa, px, rfl, hpS, hpA⟩ := dp_tup hxD
                  refine ⟨true, rfl, iteF ⟨_, rfl, pa, px, rfl, .inr hpS, rfl, _, rfl, ?_⟩⟩
                  rw [dpa_len hpA]
                  by_cases c2 : ps.length = 2
                  · rw [c2]
                    refine iteF ?_
                    match ps, c2 with
                    | [pd, pl], _ =>
                    refine ⟨_, rfl, z_ixD (t := true) hxD (Le.refl _) (j := 0) rfl rfl fun u5 hu5 => ⟨u5, pd, rfl, hu5, _, rfl, ?_⟩⟩
                    cases e5 : numD pd 0 with
                    | false => exact iteT (iteT (no (by show (numD pd 0 && _) = false; rw [e5]; rfl)))
                    | true =>
                    refine iteF ⟨_, rfl, z_ixD (t := true) hxD (Le.refl _) (j := 1) rfl rfl fun u6 hu6 => z_isi hu6 (.inr (.inr (.inl rfl))) ?_⟩
                    have e6 : isIn (tyN pl) "bool" = isB pl := by cases pl <;> rfl
                    rw [e6]
                    refine ⟨_, rfl, ?_⟩
                    cases e7 : isB pl with
                    | false => exact iteT (no (by show (numD pd 0 && isB pl) = false; rw [e7, Bool.and_false]))
                    | true =>
                    refine iteF ⟨⟨_, rfl⟩, x1, fun i d hi he => ?_⟩
                    by_cases ci : i < j
                    · exact all i d ci he
                    · obtain rfl : i = j := by omega
                      rw [hd] at he
                      cases he
                      show (numD pd 0 && isB pl) = true
                      rw [e5, e7]; rfl
                  · have e : (!decide (V.int (ps.length : Int) = V.int 2)) = true := by
                      rw [decide_eq_false (by simpa using fun z => c2 (by omega))]; rfl
                    rw [e]
                    refine iteT (no ?_)
                    match ps, c2 with
                    | [], _ => rfl
                    | [_], _ => rfl
                    | [_, _], c2 => exact absurd rfl c2
                    | _ :: _ :: _ :: _, _ => rfl
                | _ => exact ⟨false, rfl, iteT (iteT (no rfl))⟩
              · obtain ⟨⟨w1, rfl⟩, x1, all'⟩ := hP
                have all : ∀ d ∈ ys, dayD d = true := fun d hd => by
                  obtain ⟨i, hi⟩ := List.mem_iff_getElem?.mp hd
                  exact all' i d (by obtain ⟨h1, _⟩ := List.getElem?_eq_some_iff.mp hi; rw [lyx]; exact h1) hi
                have x01 := x0.trans x1
                have hS1 := le_t x01.le0 hS
                have e1 : ys.all dayD = true := List.all_eq_true.mpr all
                walk_at "un"
                refine z_lcF (le_t x01.le0 hrS) (dpa_le x01.le0 _ _ hrA) dr (fun R r => ⟨_, rfl, z_ix (.inr hS1) (v := .ref ar) rfl r⟩) (f := fun d => numD d 1) (fun i x d hd H2 N x2 hx k => ?_) fun D H2 x2 hz => ?_
                · refine ⟨rfl, _, rfl, x, d, rfl, hx, _, rfl, ?_⟩
                  have k0 := k H2 (Ex.refl _ _)
                  cases d with
                  | int z =>
                    obtain rfl := dp_int hx
                    by_cases c0 : z ≥ 0
                    · have e : numD (.int z) 0 = true := decide_eq_true c0
                      rw [e]
                      refine iteT ⟨_, rfl, _, _, rfl, rfl, ?_⟩
                      have e2 : decide (0 < z) = numD (.int z) 1 := by
                        show _ = decide (z ≥ 1)
                        by_cases c1 : 0 < z
                        · rw [decide_eq_true c1, decide_eq_true (by omega)]
                        · rw [decide_eq_false c1, decide_eq_false (by omega)]
                      show N (.bl (decide (0 < z))) H2
                      rw [e2]
                      exact k0
                    · have e : numD (.int z) 0 = false := decide_eq_false c0
                      rw [e]
                      have e2 : numD (.int z) 1 = false := decide_eq_false (by omega)
                      rw [e2] at k0
                      exact iteF k0
                  | _ => exact iteF k0
                refine ⟨D, rs.map fun d => numD d 1, rfl, hz, _, rfl, ?_⟩
                rw [List.all_map]
                show if (!(rs.all (id ∘ fun d => numD d 1))) = true then _ else _
                rw [Function.id_comp]
                have x02 := x01.trans x2
                cases e2 : rs.all fun d => numD d 1 with
                | false =>
                  refine iteT (bad H2 x02 ?_)
                  show (yearD (.tuple ys) && ((decide (0 < rs.length) && (rs.all fun d => numD d 1)) && numD m 0)) = false
                  rw [e2, Bool.and_false, Bool.false_and, Bool.and_false]
                | true =>
                refine iteF ?_
                have hS2 := le_t x2.le0 hS1
                have ew : hillD (.tuple [.tuple ys, .tuple rs, m]) = (ys.any dropD && ys.any openD) := by
                  show ((ys.all dayD && (ys.any dropD && ys.any openD)) && ((decide (0 < rs.length) && (rs.all fun d => numD d 1)) && numD m 0)) = _
                  rw [e1, e2, em, decide_eq_true cr, Bool.true_and, Bool.true_and, Bool.true_and, Bool.and_true]
                have hyA2 := dpa_le x02.le0 _ _ hyA
                have hyS2 := le_t x02.le0 hyS
                -- the sum
                refine z_lcS (B := []) (C := []) (t := true) (xs := yx) (fun R r => ⟨_, rfl, z_ix (.inr hS2) (v := .ref ay) rfl (r ay H2 (Ex.refl _ _) (by rw [wo_nil]; exact hyS2))⟩) (fun j z _ => ∃ d, ys[j]? = some d ∧ z = .int (dripD d)) (fun _ _ => True)
                  (fun H3 x3 => ⟨lcOk0 (by omega), fun i y _ hy D' H' hD' nB e3 _ tD N hN => ?_, fun D' zs H' hD' hz3 lz rz e3 _ => ?_⟩)
                · obtain ⟨d, hd, hyD⟩ := dpa_get' hyA2 hy
                  have hyD' := dp_le (x3.trans e3).le0 _ _ hyD
                  obtain ⟨i0, b0, rfl, _⟩ := dayD_is (all d (List.mem_of_getElem? hd))
                  refine ⟨rfl, _, rfl, z_ixD (t := true) hyD' (Le.refl _) (j := 0) rfl rfl fun u hu => ?_⟩
                  obtain rfl := dp_int hu
                  exact hN _ _ (Ex.refl _ _) ⟨_, hd, rfl⟩ trivial
                have ez := ys_ints (f := dripD) (l := ys) (by omega) rz
                have x23 := x3.trans e3
                refine ⟨D', _, rfl, .inl (SqL.of (by rw [hz3, ez])), _, _, rfl, rfl, _, rfl, ?_⟩
                rw [drip_any all]
                cases e4 : ys.any dropD with
                | false =>
                  refine iteF (bad H' (x02.trans x23) ?_)
                  rw [ew, e4]; rfl
                | true =>
                refine iteT ?_
                refine z_lcF (le_t x23.le0 hyS2) (dpa_le x23.le0 _ _ hyA2) dy (fun R r => ⟨_, rfl, z_ix (.inr (le_t x23.le0 hS2)) (v := .ref ay) rfl r⟩) (f := openD) (fun i x d hd H4 N x4 hx k => ?_) fun D4 H4 x4 hz4 => ?_
                · obtain ⟨i0, b0, rfl, _⟩ := dayD_is (all d (List.mem_of_getElem? hd))
                  refine ⟨rfl, _, rfl, z_ixD (t := true) hx (Le.refl _) (j := 1) rfl rfl fun u hu => ?_⟩
                  obtain rfl := dp_bl hu
                  exact k H4 (Ex.refl _ _)
                refine ⟨D4, _, rfl, .inl hz4, rfl, ?_, ?_⟩
                · rw [List.all_map, List.all_eq_true]
                  intro z _
                  rfl
                · have e5 : inV (.bl true) ((ys.map openD).map V.bl) = ys.any openD := by
                    unfold inV
                    rw [List.any_map, List.any_map]
                    congr 1
                    funext d
                    show (openD d == true) = openD d
                    cases openD d <;> rfl
                  show Q (.bl (inV (.bl true) ((ys.map openD).map V.bl))) H4
                  rw [e5]
                  have := q H4 ((x02.trans x23).trans x4)
                  rw [ew, e4] at this
                  exact this
            · rw [decide_eq_true (by omega)]
              refine iteT (bad _ x0 ?_)
              show (yearD (.tuple ys) && ((decide (0 < rs.length) && _) && numD m 0)) = false
              rw [decide_eq_false cr]
              cases yearD (.tuple ys) <;> rfl
          | _ => exact ⟨false, rfl, iteT (iteT (bad H (Ex.refl _ _) (by show (yearD (.tuple ys) && (false && _)) = false; cases yearD (.tuple ys) <;> rfl)))⟩
        | _ => exact ⟨false, rfl, iteT (iteT (bad H (Ex.refl _ _) rfl))⟩
      · have e : (!decide (V.int (ds.length : Int) = V.int 3)) = true := by
          rw [decide_eq_false (by simpa using fun z => c (by omega))]; rfl
        rw [e]
        exact iteT (iteT (bad H (Ex.refl _ _) (hill_len c)))
    | _ => exact ⟨false, rfl, iteT (iteT (bad H (Ex.refl _ _) rfl))⟩
end
end Z01
set_option Elab.async false
set_option linter.all false
set_option maxRecDepth 100000
set_option maxHeartbeats 8000000
namespace Z01
open PySem PySem.Spec PyProof.Rows L2 Hz
section
variable {P : Program} {w : World} {K : PySem.W.Frag} {mg : Str → Option Value} {base : Heap}
local macro_rules | `(tactic| walk_at "un") => `(tactic| dsimp only [tSeq, tIfS, tRet, tAsg, tDrop, tOr, tAnd, tNot, tAndV, tOrV, tNotV, tTest, tB, tOp, tUn, tCB, tCons, tNil, tC, tNext, tIf, tChain, gName, tPar, tPar3, tTup, tLst])
theorem lx {B : List Addr} {H H' : Hp} (x : Ex B H H') : Le (wo B H) H' := Le.trans x.wo (wo_le _ _)
theorem strOk_of (s : String) : PyData.strOk (Str.ofString s) = true := by
  rw [Str.ofString_eq_toList]
  unfold PyData.strOk
  simp only [List.all_toArray, List.all_map, List.all_eq_true, Function.comp_apply, decide_eq_true_eq]
  intro c _
  rcases c.valid with h | ⟨_, h⟩ <;> (show c.val.toNat < _; simp at h ⊢; omega)
theorem tame_int {M : Nat} {i : Int} (h : i.natAbs ≤ M) (W D : Nat) : Tame M W D (.int i) := ⟨by simp [PyData.canLay0], by simpa [iLe] using h, by simp [PyData.depth], by simp [PyData.bulk]⟩
theorem tame_bool (M W D : Nat) (b : Bool) : Tame M W D (.bool b) := ⟨by simp [PyData.canLay0], by simp [iLe], by simp [PyData.depth], by simp [PyData.bulk]⟩
theorem tame_non (M W D : Nat) : Tame M W D .none := ⟨by simp [PyData.canLay0], by simp [iLe], by simp [PyData.depth], by simp [PyData.bulk]⟩
theorem tame_str (M W D : Nat) {s : String} (h : s.length ≤ W) : Tame M W D (.str (Str.ofString s)) := ⟨by simpa [PyData.canLay0] using strOk_of s, by simp [iLe], by simp [PyData.depth], by simp only [PyData.bulk]; exact Nat.le_trans (Nat.le_of_eq (show (Str.ofString s).cps.size = s.length from PySem.ofString_length s)) h⟩
/-- something odd instead -/
def spOdd (K : PySem.W.Frag) : Sp := fun vs H Q _ => ∃ (b : Addr) (n : Nat) (v : V) (d : PyData) (M W D : Nat) (B : List Addr), vs = [.ref b, v] ∧ Bx b n H ∧ n ≤ 10 ^ 11 ∧ b ∈ B ∧ (∀ a ∈ B, H a ≠ none) ∧ Dp K (wo B H) v d ∧ Tame M W D d ∧ 10 ^ 13 ≤ M ∧ M < 10 ^ 19 ∧
  ∀ z e H', Dp K (wo B H') z e → Tame (M + 1) 30 2 e → Ex [b] H H' → Bx b (n + 16) H' → Q z H'
theorem ok_odd (T : Txt K mg) : FnOk P w K mg base CX0 7 T.a__law_odd T.d__law_odd P__law_odd (spOdd K) := by
  have nd := sc__law_odd.nd
  have G__law_of := ok_of (P := P) (w := w) (base := base) T
  refine T.F__law_odd.ok sc__law_odd (fun vs H Q E h => ?_) (fun cdv A outer s H vs Q E hr h => ?_)
  · obtain ⟨b, n, v, d, M, W, D, B, rfl, _⟩ := h
    rfl
  · obtain ⟨b, n, v, d, M, W, D, B, rfl, hB, hn, bB, hT, hv, ht, hM1, hM2, q⟩ := h
    have hr__law_of := hr
    have hn' : n ≤ 100000000000 := hn
    refine ⟨_, (pss_cons (ps_set (i := 2) nd rfl (Or.inl rfl) (pe_lst (pa_cons pe_non (pa_cons pe_bl (pa_cons pe_bl (pa_cons pe_int (pa_cons pe_int (pa_cons (pe_un un_neg pe_int) (pa_cons (pe_op op_pow pe_int pe_int) (pa_cons pe_str (pa_cons pe_str (pa_cons (pe_tup pa_nil) (pa_cons (pe_lst pa_nil) (pa_cons (pe_tup (pa_cons pe_int pa_nil)) (pa_cons (pe_tup (pa_cons (pe_tup (pa_cons pe_int (pa_cons pe_bl pa_nil))) pa_nil)) (pa_cons (pe_tup (pa_cons pe_int (pa_cons pe_bl pa_nil))) (pa_cons (pe_lst (pa_cons pe_int pa_nil)) pa_nil)))))))))))))))))
      (pss_cons (ps_if (pt_val (pe_callB (isiK K) (by rfl) T.z_isinstance (by decide +kernel) (pa_cons (pv 1) (pa_cons (pe_bltn (by rfl) T.z_int (by decide +kernel) (v := .ty "int") rfl) pa_nil)))) (pss_one (ps_set (i := 2) nd rfl (Or.inl rfl) (pe_op op_cat (pv 2) (pe_lst (pa_cons (pe_op addX (pv 1) pe_int) (pa_cons (pe_op subX pe_int (pv 1)) (pa_cons (pe_cmpR (eqDK K hr.units) (pv 1) pe_int (nomark _)) (pa_cons (pe_callTy strX (by rfl) T.z_str (by decide +kernel) (pa_cons (pv 1) pa_nil)) (pa_cons (pe_callTy call_int1 (by rfl) T.z_int (by decide +kernel) (pa_cons (pv 1) pa_nil)) pa_nil))))))))) pss_nil)
      (pss_one (ps_ret (pe_call G__law_of hr__law_of (by rfl) T.m__law_of T.k__law_of T.b__law_of .nil pass0 (pa_cons (pv 0) (pa_cons (pv 2) pa_nil))))))), ?_⟩
    walk_at "un"
    refine ⟨_, rfl, _, _, rfl, rfl, ⟨by decide, by decide, by decide⟩, Nat.zero_le _, fun p1 h1 => ⟨Nat.zero_le _, fun p2 h2 => ⟨(by show 1 ≤ sizeLine; decide), fun p3 h3 => ⟨(by show 2 ≤ sizeLine; decide), fun p4 h4 => ⟨(by show 1 ≤ sizeLine; decide), fun p5 h5 => ⟨(by show 2 ≤ sizeLine; decide), fun p6 h6 => ⟨(by show 1 ≤ sizeLine; decide), fun p7 h7 => ⟨(by show 15 ≤ sizeLine; decide), fun L hL => ?_⟩⟩⟩⟩⟩⟩⟩⟩
    have y1 := Ex.new (B := []) (o := .tup []) h1
    have y2 := Ex.new (B := []) (o := .lst []) h2
    have y3 := Ex.new (B := []) (o := .tup [.int 0]) h3
    have y4 := Ex.new (B := []) (o := .tup [.int 1, .bl true]) h4
    have y5 := Ex.new (B := []) (o := .tup [.ref p4]) h5
    have y6 := Ex.new (B := []) (o := .tup [.int 1, .bl true]) h6
    have y7 := Ex.new (B := []) (o := .lst [.int 1]) h7
    have y8 := Ex.new (B := []) (o := .lst [.non, .bl true, .bl false, .int 0, .int 1, .int (-1), .int (10 ^ (13 : Int).toNat), .str "", .str "open", .ref p1, .ref p2, .ref p3, .ref p5, .ref p6, .ref p7]) hL
    have b1 : p1 ∉ B := fun h => hT _ h h1
    have b2 : p2 ∉ B := fun h => hT _ h (y1.free h2)
    have z2 := y1.trans y2
    have b3 : p3 ∉ B := fun h => hT _ h (z2.free h3)
    have z3 := z2.trans y3
    have b4 : p4 ∉ B := fun h => hT _ h (z3.free h4)
    have z4 := z3.trans y4
    have b5 : p5 ∉ B := fun h => hT _ h (z4.free h5)
    have z5 := z4.trans y5
    have b6 : p6 ∉ B := fun h => hT _ h (z5.free h6)
    have z6 := z5.trans y6
    have b7 : p7 ∉ B := fun h => hT _ h (z6.free h7)
    have z7 := z6.trans y7
    have bL : L ≠ b := (hB.ex z7 (by simp)).ne hL
    have z8 := z7.trans y8
    have w7 := y8
    have w6 := y7.trans w7
    have w5 := y6.trans w6
    have w4 := y5.trans w5
    have w3 := y4.trans w4
    have w2 := y3.trans w3
    have w1 := y2.trans w2
    have f1 := w1.1 p1 _ (by simp) upd_same
    have f2 := w2.1 p2 _ (by simp) upd_same
    have f3 := w3.1 p3 _ (by simp) upd_same
    have f4 := w4.1 p4 _ (by simp) upd_same
    have f5 := w5.1 p5 _ (by simp) upd_same
    have f6 := w6.1 p6 _ (by simp) upd_same
    have f7 := w7.1 p7 _ (by simp) upd_same
    have fL := upd_same (H := upd (upd (upd (upd (upd (upd (upd H p1 (.tup [])) p2 (.lst [])) p3 (.tup [.int 0])) p4 (.tup [.int 1, .bl true])) p5 (.tup [.ref p4])) p6 (.tup [.int 1, .bl true])) p7 (.lst [.int 1])) (a := L) (o := .lst [.non, .bl true, .bl false, .int 0, .int 1, .int (-1), .int (10 ^ (13 : Int).toNat), .str "", .str "open", .ref p1, .ref p2, .ref p3, .ref p5, .ref p6, .ref p7])
    generalize hH8 : upd (upd (upd (upd (upd (upd (upd (upd H p1 (.tup [])) p2 (.lst [])) p3 (.tup [.int 0])) p4 (.tup [.int 1, .bl true])) p5 (.tup [.ref p4])) p6 (.tup [.int 1, .bl true])) p7 (.lst [.int 1])) L (.lst [.non, .bl true, .bl false, .int 0, .int 1, .int (-1), .int (10 ^ (13 : Int).toNat), .str "", .str "open", .ref p1, .ref p2, .ref p3, .ref p5, .ref p6, .ref p7]) = H8 at f1 f2 f3 f4 f5 f6 f7 fL z8 ⊢
    clear hH8 w1 w2 w3 w4 w5 w6 w7 y1 y2 y3 y4 y5 y6 y7 y8 z2 z3 z4 z5 z6 z7 h1 h2 h3 h4 h5 h6 h7 hL
    have at_ : ∀ {p : Addr} {o : HO} {H' : Hp}, p ∉ B → H8 p = some o → Ex [b] H8 H' → wo B H' p = some o := fun {p o H'} hb e x => wo_of hb (x.1 _ _ (fun z => hb (by rw [List.mem_singleton.mp z]; exact bB)) e)
    have t0 : ∀ (z : Int) (W D : Nat), z.natAbs ≤ 10 ^ 13 → Tame (M + 1) W D (.int z) := fun z W D hz => tame_int (by omega) W D
    have pick : ∀ v1 ∈ [V.non, .bl true, .bl false, .int 0, .int 1, .int (-1), .int (10 ^ (13 : Int).toNat), .str "", .str "open", .ref p1, .ref p2, .ref p3, .ref p5, .ref p6, .ref p7], ∀ H', Ex [b] H8 H' → ∃ e, Dp K (wo B H') v1 e ∧ Tame (M + 1) 30 2 e := fun v1 hv1 H' x => by
      have pair : ∀ p : Addr, wo B H' p = some (.tup [.int 1, .bl true]) → Dp K (wo B H') (.ref p) (sq true [.int 1, .bool true]) := fun p e => .tup (SqT.of e) (.cons (.int 1) (.cons (.bl true) .nil))
      have tp : Tame (M + 1) 2 1 (sq true [.int 1, .bool true]) := tame_seq (D := 0) (fun d hd => by
        simp only [List.mem_cons, List.not_mem_nil, or_false] at hd
        rcases hd with rfl | rfl
        · exact (t0 1 0 0 (by decide)).zero
        · exact (tame_bool _ 0 0 true).zero) (by simp [sumB, PyData.bulk])
      simp only [List.mem_cons, List.not_mem_nil, or_false] at hv1
      rcases hv1 with rfl | rfl | rfl | rfl | rfl | rfl | rfl | rfl | rfl | rfl | rfl | rfl | rfl | rfl | rfl
      · exact ⟨_, .non, tame_non _ _ _⟩
      · exact ⟨_, .bl true, tame_bool _ _ _ _⟩
      · exact ⟨_, .bl false, tame_bool _ _ _ _⟩
      · exact ⟨_, .int 0, t0 0 _ _ (by decide)⟩
      · exact ⟨_, .int 1, t0 1 _ _ (by decide)⟩
      · exact ⟨_, .int (-1), t0 (-1) _ _ (by decide)⟩
      · exact ⟨_, .int _, t0 _ _ _ (by decide)⟩
      · exact ⟨_, .str _, tame_str _ _ _ (by decide)⟩
      · exact ⟨_, .str _, tame_str _ _ _ (by decide)⟩
      · exact ⟨sq true [], .tup (SqT.of (at_ b1 f1 x)) .nil, tame_seq (D := 1) (by simp) (by simp [sumB])⟩
      · exact ⟨sq false [], .lst (SqL.of (at_ b2 f2 x)) .nil, tame_seq (D := 1) (by simp) (by simp [sumB])⟩
      · exact ⟨sq true [.int 0], .tup (SqT.of (at_ b3 f3 x)) (.cons (.int 0) .nil), tame_seq (D := 1) (by simp only [List.mem_singleton]; rintro d rfl; exact (t0 0 0 1 (by decide)).zero) (by simp [sumB, PyData.bulk])⟩
      · exact ⟨sq true [sq true [.int 1, .bool true]], .tup (SqT.of (at_ b5 f5 x)) (.cons (pair p4 (at_ b4 f4 x)) .nil), tame_seq (D := 1) (by simp only [List.mem_singleton]; rintro d rfl; exact tp.zero) (by have e := tp.bk; rw [sumB_cons]; have e2 : sumB [] = 0 := rfl; omega)⟩
      · exact ⟨_, pair p6 (at_ b6 f6 x), tp.mono (Nat.le_refl _) (by decide) (by decide)⟩
      · exact ⟨sq false [.int 1], .lst (SqL.of (at_ b7 f7 x)) (.cons (.int 1) .nil), tame_seq (D := 1) (by simp only [List.mem_singleton]; rintro d rfl; exact (t0 1 0 1 (by decide)).zero) (by simp [sumB, PyData.bulk])⟩
    have hB8 := hB.ex z8 (by simp)
    have hv8 := dp_le (le_woT (B := B) z8.le0) _ _ hv
    have plain : tCall (spOf K) [] E0 (tCons (tVar 0) (tCons (tVar 2) tNil)) (List.set (L2.start N__law_odd [V.ref b, v]) 2 (some (V.ref L))) H8 Q := by
      refine ⟨_, rfl, _, rfl, b, L, _, n, rfl, hB8, by omega, .inl (SqL.of (wo_of (by simpa using bL) fL)), (by show 1 ≤ 15; decide), (by show 15 ≤ 1000; decide), fun v1 H' hv1 x B' => ?_⟩
      obtain ⟨e, he, te⟩ := pick v1 hv1 H' x
      exact q v1 e H' he te ((Ex.nil z8).trans x) B'
    refine ⟨_, rfl, z_isi (dp_le (wo_le _ _) _ _ hv8) (.inr (.inr (.inr (.inl rfl)))) ?_⟩
    have join : ∀ (i : Int) (s1 : String) (bq : Bool), i.natAbs ≤ M → s1.length ≤ 30 → ∀ Lb, H8 Lb = none → rCat (.ref L) (.ref Lb) (upd H8 Lb (.lst [.int (i + 1), .int (0 - i), .bl bq, .str s1, .int i])) fun x H1 => tCall (spOf K) [] E0 (tCons (tVar 0) (tCons (tVar 2) tNil)) ((List.set (L2.start N__law_odd [V.ref b, v]) 2 (some (V.ref L))).set 2 (some x)) H1 Q := fun i s1 bq hi hs Lb hLb => by
      have u1 := Ex.new (B := []) (o := .lst [.int (i + 1), .int (0 - i), .bl bq, .str s1, .int i]) hLb
      refine ⟨L, Lb, _, _, rfl, rfl, u1.1 _ _ (by simp) fL, upd_same, (by show 15 + 5 ≤ sizeLine; decide), fun L3 hL3 => ?_⟩
      have u2 := u1.trans (Ex.new (B := []) (o := .lst ([V.non, .bl true, .bl false, .int 0, .int 1, .int (-1), .int (10 ^ (13 : Int).toNat), .str "", .str "open", .ref p1, .ref p2, .ref p3, .ref p5, .ref p6, .ref p7] ++ [.int (i + 1), .int (0 - i), .bl bq, .str s1, .int i])) hL3)
      have bL3 : L3 ≠ b := (hB8.ex u1 (by simp)).ne hL3
      refine ⟨_, rfl, _, rfl, b, L3, _, n, rfl, hB8.ex u2 (by simp), by omega, .inl (SqL.of (wo_of (by simpa using bL3) upd_same)), (by show 1 ≤ 20; decide), (by show 20 ≤ 1000; decide), fun v1 H' hv1 x B' => ?_⟩
      have out : ∃ e, Dp K (wo B H') v1 e ∧ Tame (M + 1) 30 2 e := by
        rcases List.mem_append.mp hv1 with hv1 | hv1
        · exact pick v1 hv1 H' ((Ex.nil u2).trans x)
        · simp only [List.mem_cons, List.not_mem_nil, or_false] at hv1
          rcases hv1 with rfl | rfl | rfl | rfl | rfl
          · exact ⟨_, .int _, tame_int (by omega) _ _⟩
          · exact ⟨_, .int _, tame_int (by omega) _ _⟩
          · exact ⟨_, .bl _, tame_bool _ _ _ _⟩
          · exact ⟨_, .str _, tame_str _ _ _ hs⟩
          · exact ⟨_, .int _, tame_int (by omega) _ _⟩
      obtain ⟨e, he, te⟩ := out
      exact q v1 e H' he te (((Ex.nil z8).trans (Ex.nil u2)).trans x) B'
    have hv0 := dp_le (wo_le _ _) _ _ hv8
    have dec_s : ∀ {e : PyData}, (∃ i, e = .int i) ∨ (∃ c, e = .bool c) → SeqAt.shaped e = true := fun h => by
      rcases h with ⟨i, rfl⟩ | ⟨c, rfl⟩ <;> simp [SeqAt.shaped, PyData.canLay0, PyData.depth]
    cases d with
    | int i =>
      obtain rfl := dp_int hv
      have hi : i.natAbs ≤ M := by simpa [iLe] using ht.il
      have h20 : i.natAbs < 10 ^ 20 := by omega
      have hlen : (toString i).length ≤ 30 := Nat.le_trans (int_text_length_le10 (k := 20) (by decide) h20) (by decide)
      exact ⟨true, rfl, iteT ⟨_, rfl, _, rfl, i, 1, rfl, rfl, _, rfl, 0, i, rfl, rfl, _, rfl, .int i, .int 1, .int i, .int 1, dec_s (.inl ⟨_, rfl⟩), dec_s (.inl ⟨_, rfl⟩), _, rfl, .inl ⟨i, rfl, int_log h20, _, rfl, .inl ⟨i, rfl, (by show 5 ≤ sizeLine; decide), fun Lb hLb => join i _ _ hi hlen Lb hLb⟩⟩⟩⟩
    | bool c =>
      obtain rfl := dp_bl hv
      have hi : (b01 c).natAbs ≤ M := by cases c <;> simp [b01] <;> omega
      refine ⟨true, rfl, iteT ⟨_, rfl, _, rfl, b01 c, 1, rfl, rfl, _, rfl, 0, b01 c, rfl, rfl, _, rfl, .bool c, .int 1, .bl c, .int 1, dec_s (.inr ⟨_, rfl⟩), dec_s (.inl ⟨_, rfl⟩), _, rfl, .inr ⟨c, rfl, _, rfl, .inr ⟨c, rfl, (by show 5 ≤ sizeLine; decide), fun Lb hLb => ?_⟩⟩⟩⟩
      cases c
      · exact join 0 "False" _ (by omega) (by decide) Lb hLb
      · exact join 1 "True" _ (by omega) (by decide) Lb hLb
    | _ => exact ⟨false, rfl, iteF plain⟩
end
end Z01
set_option Elab.async false
set_option linter.all false
set_option maxRecDepth 100000
set_option maxHeartbeats 8000000
namespace Z01
open PySem PySem.Spec PyProof.Rows L2 Hz
section
variable {P : Program} {w : World} {K : PySem.W.Frag} {mg : Str → Option Value} {base : Heap}
local macro_rules | `(tactic| walk_at "un") => `(tactic| dsimp only [tSeq, tIfS, tRet, tAsg, tDrop, tOr, tAnd, tNot, tAndV, tOrV, tNotV, tTest, tB, tOp, tUn, tCB, tCons, tNil, tC, tNext, tIf, tChain, gName, tPar, tPar3, tTup, tLst])
theorem dpa_set {G : Hp} : ∀ {xs : List V} {ds : List PyData} (k : Nat) {z : V} {e : PyData}, DpAll K G xs ds → Dp K G z e → DpAll K G (xs.set k z) (ds.set k e)
  | _, _, _, _, _, .nil, _ => .nil
  | _, _, 0, _, _, .cons _ t, h => .cons h t
  | _, _, k + 1, _, _, .cons a t, h => .cons a (dpa_set k t h)
theorem dpa_erase {G : Hp} : ∀ {xs : List V} {ds : List PyData} (k : Nat), DpAll K G xs ds → DpAll K G (xs.eraseIdx k) (ds.eraseIdx k)
  | _, _, _, .nil => .nil
  | _, _, 0, .cons _ t => t
  | _, _, k + 1, .cons a t => .cons a (dpa_erase k t)
theorem dpa_app {G : Hp} : ∀ {xs ys : List V} {ds es : List PyData}, DpAll K G xs ds → DpAll K G ys es → DpAll K G (xs ++ ys) (ds ++ es)
  | _, _, _, _, .nil, h => h
  | _, _, _, _, .cons a t, h => .cons a (dpa_app t h)
theorem dpa_take {G : Hp} : ∀ {xs : List V} {ds : List PyData} (n : Nat), DpAll K G xs ds → DpAll K G (xs.take n) (ds.take n)
  | _, _, 0, _ => by simp; exact .nil
  | _, _, n + 1, .nil => .nil
  | _, _, n + 1, .cons a t => .cons a (dpa_take n t)
theorem dpa_drop {G : Hp} : ∀ {xs : List V} {ds : List PyData} (n : Nat), DpAll K G xs ds → DpAll K G (xs.drop n) (ds.drop n)
  | _, _, 0, h => h
  | _, _, n + 1, .nil => .nil
  | _, _, n + 1, .cons _ t => dpa_drop n t
theorem dpa_rev {G : Hp} : ∀ {xs : List V} {ds : List PyData}, DpAll K G xs ds → DpAll K G xs.reverse ds.reverse
  | _, _, .nil => .nil
  | _, _, .cons a t => by rw [List.reverse_cons, List.reverse_cons]; exact dpa_app (dpa_rev t) (.cons a .nil)
theorem sumB_set : ∀ {ds : List PyData} {k : Nat} {e d : PyData}, ds[k]? = some d → sumB (ds.set k e) + d.bulk = sumB ds + e.bulk
  | d0 :: ds, 0, e, d, h => by
    obtain rfl : d0 = d := by simpa using h
    rw [List.set_cons_zero, sumB_cons, sumB_cons]; omega
  | d0 :: ds, k + 1, e, d, h => by
    have := sumB_set (ds := ds) (k := k) (e := e) (d := d) (by simpa using h)
    rw [List.set_cons_succ, sumB_cons, sumB_cons]; omega
theorem sumB_erase : ∀ {ds : List PyData} {k : Nat}, sumB (ds.eraseIdx k) ≤ sumB ds
  | [], _ => by simp
  | d :: ds, 0 => by rw [List.eraseIdx_cons_zero, sumB_cons]; omega
  | d :: ds, k + 1 => by
    have := sumB_erase (ds := ds) (k := k)
    rw [List.eraseIdx_cons_succ, sumB_cons, sumB_cons]; omega
theorem sumB_at {ds : List PyData} {k : Nat} {d : PyData} (h : ds[k]? = some d) : d.bulk + 1 ≤ sumB ds := by
  obtain ⟨p, q, rfl⟩ := List.append_of_mem (List.mem_of_getElem? h)
  rw [sumB_append, sumB_cons]; omega
/-- one thing otherwise -/
def spBent (K : PySem.W.Frag) (D : Nat) : Sp := fun vs H Q _ => ∃ (b : Addr) (n : Nat) (v : V) (d : PyData) (M W : Nat) (B : List Addr), vs = [.ref b, v] ∧ Bx b n H ∧ n + 100 * (D + 1) ≤ 10 ^ 11 ∧ b ∈ B ∧ (∀ a ∈ B, H a ≠ none) ∧ Dp K (wo B H) v d ∧ Tame M W D d ∧ W ≤ 500 ∧ 10 ^ 13 ≤ M ∧ M < 10 ^ 19 ∧
  ∀ z e H', Dp K (wo B H') z e → Tame (M + 1) (2 * W + 31) (D + 2) e → Ex [b] H H' → Bx b (n + 100 * (D + 1)) H' → Q z H'
theorem ok_bent_one (T : Txt K mg) (D : Nat) (sp' : Sp) (G__law_bent : FnOk P w K mg base CX0 (7 + D) T.a__law_bent T.d__law_bent P__law_bent sp') (hsp : D = 0 ∨ ∃ D', D = D' + 1 ∧ sp' = spBent K D') :
    FnOk P w K mg base CX0 (7 + D + 1) T.a__law_bent T.d__law_bent P__law_bent (spBent K D) := by
  have nd := sc__law_bent.nd
  have G__law_odd := ok_odd (P := P) (w := w) (base := base) T
  have G__law_take := ok_T (P := P) (w := w) (base := base) T
  refine T.F__law_bent.ok sc__law_bent (fun vs H Q E h => ?_) (fun cdv A outer s H vs Q E hr h => ?_)
  · obtain ⟨b, n, v, d, M, W, B, rfl, _⟩ := h
    rfl
  · obtain ⟨b, n, v, d, M, W, B, rfl, hB, hn, bB, hT, hv, ht, hW, hM1, hM2, q⟩ := h
    have hr__law_bent := hr
    have hr__law_odd := hr.mono (show 7 ≤ 7 + D by omega)
    have hr__law_take := hr.mono (show 5 ≤ 7 + D by omega)
    have hn' : n + 100 * (D + 1) ≤ 100000000000 := hn
    refine ⟨_, (pss_cons (ps_if (PW.pt (pw_or (pt_not (pt_val (pe_callB (isiTK K) (by rfl) T.z_isinstance (by decide +kernel) (pa_cons (pv 1) (pa_cons (pe_tup (pa_cons (pe_bltn (by rfl) T.z_list (by decide +kernel) (v := .ty "list") rfl) (pa_cons (pe_bltn (by rfl) T.z_tuple (by decide +kernel) (v := .ty "tuple") rfl) pa_nil))) pa_nil))))) (pw_or (pt_cmpR op_eq (pe_callB (lenK K) (by rfl) T.z_len (by decide +kernel) (pa_cons (pv 1) pa_nil)) pe_int (nomark _)) (pw_or1 (pt_cmpR op_eq (pe_call G__law_take hr__law_take (by rfl) T.m__law_take T.k__law_take T.b__law_take .nil pass0 (pa_cons (pv 0) (pa_cons pe_int pa_nil))) pe_int (nomark _)))))) (pss_one (ps_ret (pe_call G__law_odd hr__law_odd (by rfl) T.m__law_odd T.k__law_odd T.b__law_odd .nil pass0 (pa_cons (pv 0) (pa_cons (pv 1) pa_nil))))) pss_nil)
      (pss_cons (ps_par3 (i := 2) (j := 3) (l := 4) (by rfl) nd rfl rfl rfl (by decide) (by decide) (by decide) rfl rfl rfl (pa_cons (pe_call G__law_take hr__law_take (by rfl) T.m__law_take T.k__law_take T.b__law_take .nil pass0 (pa_cons (pv 0) (pa_cons pe_int pa_nil))) (pa_cons (pe_call G__law_take hr__law_take (by rfl) T.m__law_take T.k__law_take T.b__law_take .nil pass0 (pa_cons (pv 0) (pa_cons (pe_callB (lenK K) (by rfl) T.z_len (by decide +kernel) (pa_cons (pv 1) pa_nil)) pa_nil))) (pa_cons (pe_callTy (listK K) (by rfl) T.z_list (by decide +kernel) (pa_cons (pv 1) pa_nil)) pa_nil))) (by rfl))
      (pss_cons (ps_if (pt_cmpR op_lt (pv 2) pe_int (nomark _)) (pss_one (ps_asg (pe_call G__law_bent hr__law_bent (by rfl) T.m__law_bent T.k__law_bent T.b__law_bent .nil pass0 (pa_cons (pv 0) (pa_cons (pe_ix (ixK K) (pv 4) (pv 3) (fun _ _ => rfl)) pa_nil))) (pg_sub (pv 4) (pv 3) set_list))) (pss_one (ps_if (pt_cmpR op_eq (pv 2) pe_int (nomark _)) (pss_one (ps_expr (pe_bm PySem.F.plainAttrs_list PySem.F.slot_list_pop PySem.F.type_list_pop mt_popAt (pv 4) (pa_cons (pv 3) pa_nil)))) (pss_one (ps_if (pt_cmpR op_eq (pv 2) pe_int (nomark _)) (pss_one (ps_expr (pe_bm PySem.F.plainAttrs_list PySem.F.slot_list_insert PySem.F.type_list_insert mt_insert (pv 4) (pa_cons (pv 3) (pa_cons (pe_ix (ixK K) (pv 4) (pv 3) (fun _ _ => rfl)) pa_nil))))) (pss_one (ps_if (pt_cmpR op_eq (pv 2) pe_int (nomark _)) (pss_one (ps_set (i := 4) nd rfl (Or.inl rfl) (pe_revL (pv 4)))) (pss_one (ps_ret (pe_ifExp (pt_val (pe_callB (isiK K) (by rfl) T.z_isinstance (by decide +kernel) (pa_cons (pv 1) (pa_cons (pe_bltn (by rfl) T.z_list (by decide +kernel) (v := .ty "list") rfl) pa_nil)))) (pe_callTy (tupK K) (by rfl) T.z_tuple (by decide +kernel) (pa_cons (pv 4) pa_nil)) (pv 4)))))))))))
      (pss_one (ps_ret (pe_ifExp (pt_val (pe_callB (isiK K) (by rfl) T.z_isinstance (by decide +kernel) (pa_cons (pv 1) (pa_cons (pe_bltn (by rfl) T.z_list (by decide +kernel) (v := .ty "list") rfl) pa_nil)))) (pv 4) (pe_callTy (tupK K) (by rfl) T.z_tuple (by decide +kernel) (pa_cons (pv 4) pa_nil)))))))), ?_⟩
    walk_at "un"
    refine ⟨_, rfl, (by show 2 ≤ sizeLine; decide), fun pt hpt => ?_⟩
    have x1 := Ex.new (B := []) (o := .tup [.ty "list", .ty "tuple"]) hpt
    have hv1 := dp_le (le_woT (B := B) x1.le0) _ _ hv
    have hT1 : ∀ {G}, Ex [b] H G → ∀ a ∈ B, G a ≠ none := fun x a ha z => hT a ha (x.free z)
    -- the odd way
    have odd : ∀ (m : Nat) (G : Hp), Ex [b] H G → Bx b m G → m ≤ n + 20 → Dp K (wo B G) v d → tCall (spOdd K) [] E0 (tCons (tVar 0) (tCons (tVar 1) tNil)) (L2.start N__law_bent [V.ref b, v]) G Q := fun m G x Bg hm hg =>
      ⟨_, rfl, _, rfl, b, m, v, d, M, W, D, B, rfl, Bg, by omega, bB, hT1 x, hg, ht, hM1, hM2, fun z e H' hz te x' B' => q z e H' hz (te.mono (Nat.le_refl _) (by omega) (by omega)) (x.trans x') (B'.mono (by omega))⟩
    refine z_isiLT (dp_le (wo_le _ _) _ _ hv1) upd_same ?_
    by_cases cs : ∃ t ds, d = sq t ds
    · obtain ⟨t, ds, rfl⟩ := cs
      have eT : (isIn (tyN (sq t ds)) "list" || isIn (tyN (sq t ds)) "tuple") = true := by cases t <;> rfl
      rw [eT]
      refine ⟨true, rfl, iteF ?_⟩
      obtain ⟨a, xs, rfl, hS0, hA0⟩ := dp_sq hv
      have lx0 := dpa_len hA0
      have at1 : ∀ {G}, Ex [b] H G → SqX t K G a xs := fun x => le_x (Le.trans (fun a o e => wo_of (wo_some e).1 (x.1 a o (fun z => (wo_some e).1 (by rw [List.mem_singleton.mp z]; exact bB)) (wo_some e).2)) (wo_le B _)) hS0
      have dat : ∀ {G}, Ex [b] H G → Le (wo B H) (wo B G) := fun x a o e => wo_of (wo_some e).1 (x.1 a o (fun z => (wo_some e).1 (by rw [List.mem_singleton.mp z]; exact bB)) (wo_some e).2)
      have x1b : Ex [b] H _ := Ex.nil x1
      refine ⟨_, rfl, a, xs, rfl, (at1 x1b).sq, rfl, _, rfl, ite2 (fun c => iteT (odd n _ x1b (hB.ex x1 (by simp)) (by omega) hv1)) (fun c => ?_)⟩
      have hpos : 0 < xs.length := by
        rcases Nat.eq_zero_or_pos xs.length with z | z
        · rw [z] at c; exact absurd (by decide) c
        · exact z
      refine ⟨_, rfl, b, 7, n, rfl, hB.ex x1 (by simp), by omega, by decide, by decide, fun r1 H2 r10 r11 x2 B2 => ⟨rfl, _, rfl, ite2 (fun c => odd _ _ (x1b.trans x2) B2 (by omega) (dp_le (dat (x1b.trans x2)) _ _ hv)) (fun c => ?_)⟩⟩
      have x02 := x1b.trans x2
      refine ⟨_, rfl, b, 9, _, rfl, B2, by omega, by decide, by decide, fun r2 H3 r20 r21 x3 B3 => ?_⟩
      have x03 := x02.trans x3
      have hbk := ht.bk
      have lens : xs.length ≤ 500 := by
        have := sumB_len ds
        have e : sumB ds ≤ W := by
          have := ht.bk
          cases t
          · change PyData.bulk (.list ds) ≤ _ at this; simp only [PyData.bulk, bulkAll_eq] at this; exact this
          · change PyData.bulk (.tuple ds) ≤ _ at this; simp only [PyData.bulk, bulkAll_eq] at this; exact this
        omega
      refine ⟨_, rfl, _, rfl, a, xs, rfl, (at1 x03).sq, b, _, _, rfl, B3, by omega, by omega, by omega, fun r3 H4 r30 r31 x4 B4 => ?_⟩
      have x04 := x03.trans x4
      obtain ⟨k, rfl⟩ : ∃ k : Nat, r3 = k := ⟨r3.toNat, by omega⟩
      have hk : k < xs.length := by omega
      refine ⟨_, rfl, a, xs, rfl, (at1 x04).sq, fun S hS => ⟨_, _, _, rfl, ?_⟩⟩
      have xS := Ex.new (B := []) (o := .lst xs) hS
      have x05 : Ex [b] H (upd H4 S (.lst xs)) := x04.trans (Ex.nil xS)
      have hS0 : H S = none := x04.free hS
      have nS : S ∉ B := fun h => hT S h hS0
      have nSb : S ≠ b := fun z => nS (by rw [z]; exact bB)
      have B5 := B4.ex xS (by simp)
      have e5 : upd H4 S (.lst xs) S = some (.lst xs) := upd_same
      generalize upd H4 S (.lst xs) = H5 at x05 B5 e5 ⊢
      have inS : ∀ {G}, Ex [b] H G → Le (wo B H) (wo (S :: B) G) := fun x a o e => by
        obtain ⟨n1, n2⟩ := wo_some e
        refine wo_of (fun z => ?_) (x.1 a o (fun z => n1 (by rw [List.mem_singleton.mp z]; exact bB)) n2)
        rcases List.mem_cons.mp z with z | z
        · rw [z, hS0] at n2; cases n2
        · exact n1 z
      have hA5 := dpa_le (inS x05) _ _ hA0
      -- it is as deep as it is
      obtain ⟨D', rfl⟩ : ∃ D', D = D' + 1 := by
        cases D with
        | succ D' => exact ⟨D', rfl⟩
        | zero =>
          have := ht.dp
          cases t
          · change PyData.depth (.list ds) ≤ _ at this; simp [PyData.depth] at this
          · change PyData.depth (.tuple ds) ≤ _ at this; simp [PyData.depth] at this
      obtain ⟨t0, tb⟩ := tame_parts ht
      obtain ⟨_, eD, rfl⟩ : ∃ D'', D' + 1 = D'' + 1 ∧ sp' = spBent K D'' := by
        rcases hsp with z | ⟨D'', z, z2⟩
        · omega
        · exact ⟨D'', z, z2⟩
      obtain rfl := Nat.succ.inj eD
      have hkd : k < ds.length := by omega
      have hxk : xs[k]? = some xs[k] := List.getElem?_eq_getElem hk
      have hdk : ds[k]? = some ds[k] := List.getElem?_eq_getElem hkd
      have hkD : Dp K (wo (S :: B) H5) xs[k] ds[k] := by
        obtain ⟨d, h1, h2⟩ := dpa_get' hA5 hxk
        rw [hdk] at h1
        cases h1
        exact h2
      -- the end, whichever list it is
      have fin : ∀ (S : Addr) (zs : List V) (es : List PyData) (G : Hp) (m : Nat), H S = none → Ex [b] H G → Bx b m G → m ≤ n + 100 * (D' + 1 + 1) → G S = some (.lst zs) → DpAll K (wo B G) zs es → (∀ d ∈ es, Tame0 (M + 1) (D' + 2) d) → sumB es ≤ 2 * W + 31 →
          Q (.ref S) G ∧ rTupA K [.ref S] G Q := fun S zs es G m s0 x Bg hm e hz te ts => by
        have n1 : S ∉ B := fun h => hT S h s0
        refine ⟨q _ (sq false es) G (.lst (SqL.of (wo_of n1 e)) hz) (tame_seq te ts) x (Bg.mono hm), S, zs, rfl, .inl ⟨SqL.of e, fun l hl => ?_⟩⟩
        have xl := Ex.new (B := []) (o := .tup zs) hl
        have n2 : l ∉ B := fun h => hT l h (x.free hl)
        exact q _ (sq true es) _ (.tup (SqT.of (wo_of n2 upd_same)) (dpa_le (le_woT xl.le0) _ _ hz)) (tame_seq te ts) (x.trans (Ex.nil xl)) ((Bg.ex xl (by simp)).mono hm)
      have hv' : ∀ {G}, Ex [b] H G → Dp K G (.ref a) (sq t ds) := fun x => dp_le (Le.trans (dat x) (wo_le _ _)) _ _ hv
      have up0 : ∀ d, Tame0 M D' d → Tame0 (M + 1) (D' + 2) d := fun d h => h.mono (by omega) (by omega)
      have low : ∀ {G : Hp}, Le (wo (S :: B) G) (wo B G) := fun {G} => wo_le2 fun a ha => List.mem_cons_of_mem _ ha
      -- what stands behind the ways: the list or a tuple of it
      have ret : ∀ (σ : L2.St) (S : Addr) (G : Hp), (∀ G (R : VK), R (.ref a) G → tVar 1 σ G R) → (∀ G (R : VK), R (.ref S) G → tVar 4 σ G R) → Ex [b] H G → Q (.ref S) G ∧ rTupA K [.ref S] G Q →
          tRet (tIf (tB (tCB (rIsi K) (tCons (tVar 1) (tCons (tC (V.ty "list")) tNil)))) (tVar 4) (tCB (rTupA K) (tCons (tVar 4) tNil))) { nx := fun x H' => Q V.non H', rt := Q } σ G := fun σ S G s1 s4 x ⟨qa, qb⟩ => by
        walk_at "un"
        refine s1 _ _ (z_isi (hv' x) (.inl rfl) ⟨_, rfl, ?_⟩)
        cases isIn (tyN (sq t ds)) "list" with
        | true => exact iteT (s4 _ _ qa)
        | false => exact iteF (s4 _ _ qb)
      refine ⟨_, rfl, _, _, rfl, rfl, _, rfl, ite2 (fun c1 => ?_) (fun c1 => ?_)⟩
      · have sb := sumB_at hdk
        have t0k := t0 _ (List.getElem_mem hkd)
        refine ⟨_, rfl, _, rfl, _, rfl, z_ixL e5 (atI_nat hxk) ⟨b, _, xs[k], ds[k], M, ds[k].bulk, S :: B, rfl, B5, by omega, List.mem_cons_of_mem _ bB, fun c hc => ?_, hkD, ⟨t0k.1, t0k.2.1, t0k.2.2, Nat.le_refl _⟩, by omega, hM1, hM2, fun z e H6 hz te x6 B6 => ?_⟩⟩
        · rcases List.mem_cons.mp hc with rfl | hc
          · rw [e5]; simp
          · exact hT1 x05 c hc
        have e6 := x6.1 S _ (by simpa using nSb) e5
        have x06 := x05.trans x6
        refine ⟨_, rfl, _, rfl, S, xs, k, k, rfl, rfl, e6, ixN_nat hk, ?_⟩
        have xm : Ex [b] H (upd H6 S (.lst (xs.set k z))) := x06.mutNew' hS0
        refine ret _ S _ (fun _ _ q => ⟨_, rfl, q⟩) (fun _ _ q => ⟨_, rfl, q⟩) xm (fin S _ (ds.set k e) _ _ hS0 xm (B6.ex (Ex.mut (B := [S]) (by simp)) (by simpa using nSb.symm)) (by omega) upd_same ?_ ?_ ?_)
        · have lm : Le (wo (S :: B) H6) (wo B (upd H6 S (.lst (xs.set k z)))) := fun a o e => by
            obtain ⟨n1, n2⟩ := wo_some e
            refine wo_of (fun h => n1 (List.mem_cons_of_mem _ h)) ?_
            rw [upd_ne (fun h => n1 (by rw [h]; exact List.mem_cons_self))]
            exact n2
          exact dpa_set k (dpa_le (Le.trans (inS x06) lm) _ _ hA0) (dp_le lm _ _ hz)
        · intro d hd
          rcases List.mem_or_eq_of_mem_set hd with hd | rfl
          · exact up0 d (t0 d hd)
          · exact te.zero
        · have := sumB_set (e := e) hdk
          have := te.bk
          omega
      refine ⟨_, rfl, rfl, _, rfl, ite2 (fun c2 => ?_) (fun c2 => ?_)⟩
      · have xm : Ex [b] H (upd H5 S (.lst (xs.eraseIdx k))) := x05.mutNew' hS0
        refine ⟨_, rfl, .inl ⟨rfl, xs, SqL.of e5⟩, _, rfl, S, xs, (k : Int), k, xs[k], rfl, rfl, e5, by omega, by omega, (ixN_seq (ixN_nat hk)).1, hxk, ?_⟩
        refine ret _ S _ (fun _ _ q => ⟨_, rfl, q⟩) (fun _ _ q => ⟨_, rfl, q⟩) xm (fin S _ (ds.eraseIdx k) _ _ hS0 xm (B5.ex (Ex.mut (B := [S]) (by simp)) (by simpa using nSb.symm)) (by omega) upd_same (dpa_le (dat xm) _ _ (dpa_erase k hA0)) (fun d hd => up0 d (t0 d (List.mem_of_mem_eraseIdx hd))) (by have := sumB_erase (ds := ds) (k := k); omega))
      refine ⟨_, rfl, rfl, _, rfl, ite2 (fun c3 => ?_) (fun c3 => ?_)⟩
      · have xm : Ex [b] H (upd H5 S (.lst (xs.take k ++ [xs[k]] ++ xs.drop k))) := x05.mutNew' hS0
        refine ⟨_, rfl, .inl ⟨rfl, xs, SqL.of e5⟩, _, rfl, _, rfl, _, rfl, z_ixL e5 (atI_nat hxk) ⟨S, xs, (k : Int), xs[k], rfl, rfl, e5, by show xs.length < 16777216; omega, by omega, by omega, ?_⟩⟩
        rw [Int.toNat_natCast]
        have hk0 : Dp K (wo B H) xs[k] ds[k] := by
          obtain ⟨d, h1, h2⟩ := dpa_get' hA0 hxk
          rw [hdk] at h1
          cases h1
          exact h2
        refine ret _ S _ (fun _ _ q => ⟨_, rfl, q⟩) (fun _ _ q => ⟨_, rfl, q⟩) xm (fin S _ (ds.take k ++ [ds[k]] ++ ds.drop k) _ _ hS0 xm (B5.ex (Ex.mut (B := [S]) (by simp)) (by simpa using nSb.symm)) (by omega) upd_same (dpa_le (dat xm) _ _ (dpa_app (dpa_app (dpa_take k hA0) (.cons hk0 .nil)) (dpa_drop k hA0))) (fun d hd => ?_) ?_)
        · rcases List.mem_append.mp hd with hd | hd
          · rcases List.mem_append.mp hd with hd | hd
            · exact up0 d (t0 d (List.mem_of_mem_take hd))
            · obtain rfl : d = ds[k] := by simpa using hd
              exact up0 _ (t0 _ (List.getElem_mem hkd))
          · exact up0 d (t0 d (List.mem_of_mem_drop hd))
        · have e : sumB (ds.take k) + sumB (ds.drop k) = sumB ds := by rw [← sumB_append, List.take_append_drop]
          have := sumB_at hdk
          rw [sumB_append, sumB_append, sumB_cons]
          have e2 : sumB [] = 0 := rfl
          omega
      refine ⟨_, rfl, rfl, _, rfl, ite2 (fun c4 => ?_) (fun c4 => ?_)⟩
      · refine ⟨_, rfl, S, xs, rfl, SqL.of e5, fun S2 hS2 => ?_⟩
        have xr := Ex.new (B := []) (o := .lst xs.reverse) hS2
        have xm := x05.trans (Ex.nil xr)
        refine ret _ S2 _ (fun _ _ q => ⟨_, rfl, q⟩) (fun _ _ q => ⟨_, rfl, q⟩) xm (fin S2 _ ds.reverse _ _ (x05.free hS2) xm (B5.ex xr (by simp)) (by omega) upd_same (dpa_le (dat xm) _ _ (dpa_rev hA0)) (fun d hd => up0 d (t0 d (List.mem_reverse.mp hd))) (by rw [sumB_reverse]; omega))
      · obtain ⟨qa, qb⟩ := fin S xs ds H5 _ hS0 x05 B5 (by omega) e5 (dpa_le (dat x05) _ _ hA0) (fun d hd => up0 d (t0 d hd)) (by omega)
        refine ⟨_, rfl, z_isi (hv' x05) (.inl rfl) ⟨_, rfl, ?_⟩⟩
        cases isIn (tyN (sq t ds)) "list" with
        | true => exact iteT ⟨_, rfl, qb⟩
        | false => exact iteF ⟨_, rfl, qa⟩
    · have eF : (isIn (tyN d) "list" || isIn (tyN d) "tuple") = false := by
        cases d with
        | list ds => exact absurd ⟨false, ds, rfl⟩ cs
        | tuple ds => exact absurd ⟨true, ds, rfl⟩ cs
        | dict _ => have := ht.il; simp [iLe] at this
        | _ => rfl
      rw [eF]
      exact ⟨false, rfl, iteT (iteT (odd n _ (Ex.nil x1) (hB.ex x1 (by simp)) (by omega) hv1))⟩
theorem ok_bent (T : Txt K mg) : ∀ D, FnOk P w K mg base CX0 (7 + D + 1) T.a__law_bent T.d__law_bent P__law_bent (spBent K D)
  | 0 => ok_bent_one T 0 (fun _ _ _ _ => False) ⟨fun _ _ _ _ h => h.elim, fun _ _ _ _ _ _ _ _ _ _ _ _ _ h => h.elim⟩ (.inl rfl)
  | D + 1 => ok_bent_one T (D + 1) _ (ok_bent T D) (.inr ⟨D, rfl, rfl⟩)
end
end Z01
set_option Elab.async false
set_option linter.all false
set_option maxRecDepth 100000
set_option maxHeartbeats 8000000
namespace Z01
open PySem PySem.Spec PyProof.Rows L2 Hz
section
variable {P : Program} {w : World} {K : PySem.W.Frag} {mg : Str → Option Value} {base : Heap}
local macro_rules | `(tactic| walk_at "un") => `(tactic| dsimp only [tSeq, tIfS, tRet, tAsg, tDrop, tOr, tAnd, tNot, tAndV, tOrV, tNotV, tTest, tB, tOp, tUn, tCB, tCons, tNil, tC, tNext, tIf, tChain, gName, tPar, tPar3, tTup, tLst])
/-- a thing that is good: data to be shown, the box aside -/
def Gd (K : PySem.W.Frag) (b : Addr) (W D : Nat) (H : Hp) (x : V) : Prop := ∃ d, Dp K (wo [b] H) x d ∧ Tame (10 ^ 15) W D d
def GdA (K : PySem.W.Frag) (b : Addr) (W D : Nat) (H : Hp) (xs : List V) : Prop := ∃ ds, DpAll K (wo [b] H) xs ds ∧ (∀ d ∈ ds, Tame0 (10 ^ 15) D d) ∧ sumB ds ≤ W
theorem Gd.up {b : Addr} {W D W' D' : Nat} {H H' : Hp} {x : V} (h : Gd K b W D H x) (e : Ex [b] H H') (hW : W ≤ W' := by omega) (hD : D ≤ D' := by omega) : Gd K b W' D' H' x := by
  obtain ⟨d, h1, h2⟩ := h
  exact ⟨d, dp_le e.wo _ _ h1, h2.mono (Nat.le_refl _) hW hD⟩
theorem gd_int (b : Addr) (H : Hp) (i : Int) (h : i.natAbs ≤ 10 ^ 15) (W D : Nat) : Gd K b W D H (.int i) := ⟨_, .int i, tame_int h W D⟩
theorem gd_bl (b : Addr) (H : Hp) (i : Bool) (W D : Nat) : Gd K b W D H (.bl i) := ⟨_, .bl i, tame_bool _ W D i⟩
theorem gdA_nil (b : Addr) (D : Nat) (H : Hp) : GdA K b 0 D H [] := ⟨[], .nil, by simp, by simp [sumB]⟩
theorem gdA_cons {b : Addr} {W W' D : Nat} {H : Hp} {x : V} {xs : List V} (h : Gd K b W D H x) (t : GdA K b W' D H xs) : GdA K b (W + 1 + W') D H (x :: xs) := by
  obtain ⟨d, h1, h2⟩ := h
  obtain ⟨ds, t1, t2, t3⟩ := t
  refine ⟨d :: ds, .cons h1 t1, fun e he => ?_, ?_⟩
  · rcases List.mem_cons.mp he with rfl | he
    · exact h2.zero
    · exact t2 e he
  · rw [sumB_cons]
    have := h2.bk
    omega
theorem gd_seq {b : Addr} {W D : Nat} {H : Hp} {xs : List V} {p : Addr} (t : Bool) (h : GdA K b W D H xs) (hp : H p = none) (np : p ≠ b) : Gd K b W (D + 1) (upd H p (if t then .tup xs else .lst xs)) (.ref p) := by
  obtain ⟨ds, t1, t2, t3⟩ := h
  have t1' := dpa_le (le_woT (B := [b]) (Ex.new (B := []) (o := (if t then HO.tup xs else .lst xs)) hp).le0) _ _ t1
  have np' : p ∉ [b] := by simpa using np
  refine ⟨sq t ds, ?_, tame_seq t2 t3⟩
  cases t
  · exact .lst (SqL.of (wo_of np' upd_same)) t1'
  · exact .tup (SqT.of (wo_of np' upd_same)) t1'
theorem gdA_parts {b : Addr} {W D : Nat} {H : Hp} {xs : List V} (h : GdA K b W D H xs) : ∀ x ∈ xs, Gd K b W D H x := by
  obtain ⟨ds, t1, t2, t3⟩ := h
  intro x hx
  obtain ⟨i, hi, rfl⟩ := List.getElem_of_mem hx
  obtain ⟨d, h1, h2⟩ := dpa_get' t1 (List.getElem?_eq_getElem hi)
  have hm := List.mem_of_getElem? h1
  obtain ⟨a, b', c⟩ := t2 d hm
  refine ⟨d, h2, a, b', c, ?_⟩
  obtain ⟨p, q, rfl⟩ := List.append_of_mem hm
  rw [sumB_append, sumB_cons] at t3
  omega
theorem sumB_le {ds : List PyData} {z : Nat} (h : ∀ d ∈ ds, d.bulk ≤ z) : sumB ds ≤ ds.length * (z + 1) := by
  induction ds with
  | nil => simp [sumB]
  | cons d ds ih =>
    rw [sumB_cons, List.length_cons, Nat.succ_mul]
    have := h d (by simp)
    have := ih fun e he => h e (List.mem_cons_of_mem _ he)
    omega
theorem tame_day {i : Int} {c : Bool} (h : i.natAbs ≤ 10 ^ 15) : Tame (10 ^ 15) 2 1 (sq true [.int i, .bool c]) := tame_seq (D := 0) (fun d hd => by
  simp only [List.mem_cons, List.not_mem_nil, or_false] at hd
  rcases hd with rfl | rfl
  · exact (tame_int h 0 0).zero
  · exact (tame_bool _ 0 0 c).zero) (by simp [sumB, PyData.bulk])
theorem tame_year {c : List (Int × Bool)} (hl : c.length ≤ 20) (h : ∀ d ∈ c, d.1.natAbs ≤ 10 ^ 15) : Tame (10 ^ 15) 60 2 (sq true (c.map fun d => sq true [.int d.1, .bool d.2])) := by
  refine tame_seq (fun d hd => ?_) ?_
  · obtain ⟨e, he, rfl⟩ := List.mem_map.mp hd
    exact (tame_day (h e he)).zero
  · have := sumB_le (ds := c.map fun d => sq true [.int d.1, .bool d.2]) (z := 2) fun d hd => by
      obtain ⟨e, he, rfl⟩ := List.mem_map.mp hd
      exact (tame_day (h e he)).bk
    rw [List.length_map] at this
    omega
theorem tame_ints {ns : List Int} (hl : ns.length ≤ 20) (h : ∀ d ∈ ns, d.natAbs ≤ 10 ^ 15) : Tame (10 ^ 15) 20 1 (sq true (ns.map PyData.int)) := by
  refine tame_seq (D := 0) (fun d hd => ?_) ?_
  · obtain ⟨e, he, rfl⟩ := List.mem_map.mp hd
    exact (tame_int (h e he) 0 0).zero
  · have := sumB_le (ds := ns.map PyData.int) (z := 0) fun d hd => by
      obtain ⟨e, he, rfl⟩ := List.mem_map.mp hd
      simp [PyData.bulk]
    rw [List.length_map] at this
    omega
/-- a drawn hill: the whole, its parts -/
theorem hill_good {b : Addr} {H : Hp} {v : V} {h : Hill} (hk : HillOk h) (hD : Dp K (wo [b] H) v (h.dat true)) : Gd K b 83 3 H v ∧ ∃ a ya na ys, v = .ref a ∧ SqT K H a [.ref ya, .ref na, .int h.most] ∧ SqT K (wo [b] H) ya ys ∧ DpAll K (wo [b] H) ys (h.year.map fun d => sq true [.int d.1, .bool d.2]) ∧ ys.length ≤ 20 ∧
    Gd K b 60 2 H (.ref ya) ∧ Gd K b 20 1 H (.ref na) ∧ Gd K b 0 0 H (.int h.most) := by
  have e14 : (10 : Int) ^ 14 = 100000000000000 := by decide
  have e15 : 10 ^ 15 = 1000000000000000 := by decide
  have e12 : (10 : Int) ^ 12 = 1000000000000 := by decide
  have ty : Tame (10 ^ 15) 60 2 (sq true (h.year.map fun d => sq true [.int d.1, .bool d.2])) := tame_year hk.y2 fun d hd => by have := hk.d0 d hd; omega
  have tn : Tame (10 ^ 15) 20 1 (sq true (h.needs.map PyData.int)) := tame_ints hk.n2 fun m hm => by have := hk.n0 m hm; omega
  have tm : Tame (10 ^ 15) 0 0 (.int h.most) := tame_int (by have := hk.m0; have := hk.m1; omega) _ _
  have th : Tame (10 ^ 15) 83 3 (h.dat true) := tame_seq (D := 2) (fun d hd => by
    simp only [List.mem_cons, List.not_mem_nil, or_false] at hd
    rcases hd with rfl | rfl | rfl
    · exact ty.zero
    · exact (tn.mono (Nat.le_refl _) (Nat.le_refl _) (show 1 ≤ 2 by decide)).zero
    · exact (tm.mono (Nat.le_refl _) (Nat.le_refl _) (show 0 ≤ 2 by decide)).zero) (by
      have := ty.bk; have := tn.bk; have := tm.bk
      rw [sumB_cons, sumB_cons, sumB_cons]
      have e2 : sumB [] = 0 := rfl
      omega)
  refine ⟨⟨_, hD, th⟩, ?_⟩
  obtain ⟨a, xs, rfl, hS, hA⟩ := dp_tup hD
  cases hA with | cons hyD hA => cases hA with | cons hnD hA => cases hA with | cons hcD hA =>
  cases hA
  obtain rfl := dp_int hcD
  have gy : Gd K b 60 2 H _ := ⟨_, hyD, ty⟩
  have gn : Gd K b 20 1 H _ := ⟨_, hnD, tn⟩
  obtain ⟨ya, ys, rfl, hyS, hyA⟩ := dp_tup hyD
  obtain ⟨na, ns, rfl, hnS, hnA⟩ := dp_tup hnD
  exact ⟨a, ya, na, ys, rfl, le_t (wo_le _ _) hS, hyS, hyA, by rw [dpa_len hyA, List.length_map]; exact hk.y2, gy, gn, gd_int b H _ (by have := hk.m0; have := hk.m1; omega) 0 0⟩
theorem fnOk_or {f : Addr} {fd : FuncData} {ps : List Str} {CX : CXT} {k k' : Nat} {sp sp' : Sp} (F : FnOk P w K mg base CX k f fd ps sp) (F' : FnOk P w K mg base CX k' f fd ps sp') (hk : k' ≤ k := by decide) : FnOk P w K mg base CX k f fd ps (fun vs H Q E => sp vs H Q E ∨ sp' vs H Q E) :=
  ⟨fun vs H Q E h => h.elim (F.len vs H Q E) (F'.len vs H Q E), fun A outer s H args us vs Q E r e b v h => h.elim (F.run A outer s H args us vs Q E r e b v) (F'.run A outer s H args us vs Q E (r.mono hk) e b v)⟩
def GdB (K : PySem.W.Frag) (B : List Addr) (H : Hp) (x : V) : Prop := ∃ d, Dp K (wo B H) x d ∧ Tame (10 ^ 15 + 2) 500 8 d
theorem gmem2 {R : V → Prop} {x y : V} (a : R x) (b : R y) : ∀ z ∈ [x, y], R z := fun z hz => by
  simp only [List.mem_cons, List.not_mem_nil, or_false] at hz
  rcases hz with rfl | rfl <;> assumption
theorem gmem3 {R : V → Prop} {x y u : V} (a : R x) (b : R y) (c : R u) : ∀ z ∈ [x, y, u], R z := fun z hz => by
  simp only [List.mem_cons, List.not_mem_nil, or_false] at hz
  rcases hz with rfl | rfl | rfl <;> assumption
theorem gmem4 {R : V → Prop} {x y u t : V} (a : R x) (b : R y) (c : R u) (d : R t) : ∀ z ∈ [x, y, u, t], R z := fun z hz => by
  simp only [List.mem_cons, List.not_mem_nil, or_false] at hz
  rcases hz with rfl | rfl | rfl | rfl <;> assumption
theorem gcons {R : V → Prop} {x : V} {xs : List V} (a : R x) (h : ∀ z ∈ xs, R z) : ∀ z ∈ x :: xs, R z := fun z hz => by
  rcases List.mem_cons.mp hz with rfl | hz
  · exact a
  · exact h z hz
theorem glift {b : Addr} {W D : Nat} {H H' : Hp} {xs : List V} (h : ∀ z ∈ xs, Gd K b W D H z) (e : Ex [] H H') : ∀ z ∈ xs, Gd K b W D H' z := fun z hz => (h z hz).up (Ex.nil e)
theorem gdA_of {b : Addr} {W D : Nat} {H : Hp} : ∀ {xs : List V}, (∀ z ∈ xs, Gd K b W D H z) → GdA K b (xs.length * (W + 1)) D H xs
  | [], _ => by rw [List.length_nil, Nat.zero_mul]; exact gdA_nil b D H
  | x :: xs, h => by
    have := gdA_cons (h x (by simp)) (gdA_of fun z hz => h z (List.mem_cons_of_mem _ hz))
    rw [List.length_cons, Nat.succ_mul, Nat.add_comm]
    exact this
theorem new_seq {b : Addr} {H : Hp} {xs : List V} {p : Addr} (t : Bool) (h : ∀ z ∈ xs, Gd K b 60 2 H z) (l : xs.length ≤ 4) (hp : H p = none) (np : p ≠ b) : Gd K b 300 4 (upd H p (if t then .tup xs else .lst xs)) (.ref p) :=
  (gd_seq t (gdA_of h) hp np).up (Ex.refl _ _) (by omega) (by omega)
theorem new_tup {b : Addr} {H : Hp} {xs : List V} {p : Addr} (h : ∀ z ∈ xs, Gd K b 60 2 H z) (l : xs.length ≤ 4) (hp : H p = none) (np : p ≠ b) : Gd K b 300 4 (upd H p (.tup xs)) (.ref p) := new_seq true h l hp np
theorem new_lst {b : Addr} {H : Hp} {xs : List V} {p : Addr} (h : ∀ z ∈ xs, Gd K b 60 2 H z) (l : xs.length ≤ 4) (hp : H p = none) (np : p ≠ b) : Gd K b 300 4 (upd H p (.lst xs)) (.ref p) := new_seq false h l hp np
theorem gd_tup {b : Addr} {W D : Nat} {H : Hp} {xs : List V} {p : Addr} (h : GdA K b W D H xs) (hp : H p = none) (np : p ≠ b) : Gd K b W (D + 1) (upd H p (.tup xs)) (.ref p) := gd_seq true h hp np
/-- the year's days, each made anew -/
theorem lc_days {tl : TE} {g : TG} {te : TE} {vs : List Nat} {σ : L2.St} {H : Hp} {b ya : Addr} {ys : List V} {c : List (Int × Bool)} {Q : VK} (hS : SqT K (wo [b] H) ya ys) (hA : DpAll K (wo [b] H) ys (c.map fun d => sq true [.int d.1, .bool d.2])) (hl : ys.length ≤ 20) (hb : H b ≠ none)
    (f : Int × Bool → Int × Bool) (htl : ∀ R : VK, R (.ref ya) H → tl σ H R)
    (turn : ∀ (x : V) (d : Int × Bool), ∀ (H' : Hp) (N : VK), Ex [] H H' → Dp K H' x (sq true [.int d.1, .bool d.2]) → (∀ p, H' p = none → N (.ref p) (upd H' p (.tup [.int (f d).1, .bl (f d).2]))) → g x (wipe σ vs) H' fun σ2 H2 => wipe σ2 vs = wipe σ vs ∧ te σ2 H2 N)
    (fin : ∀ D zs H', Ex [] H H' → H' D = some (.lst zs) → zs.length = ys.length → DpAll K (wo [b] H') zs (c.map fun d => sq true [.int (f d).1, .bool (f d).2]) → Q (.ref D) H') : tLc (fun σ H R => iList K tl σ H R ∨ iTup K tl σ H R) g tYes te vs σ H Q := by
  have lyc := dpa_len hA
  rw [List.length_map] at lyc
  refine z_lcS (B := [b]) (C := []) (t := true) (xs := ys) (fun R r => htl _ (r ya H (Ex.refl _ _) hS)) (fun i v G => ∃ d, c[i]? = some d ∧ Dp K G v (sq true [.int (f d).1, .bool (f d).2])) (fun _ _ => True)
    (fun H15 x17 => ⟨⟨fun a ha hn => ?_, fun _ h => (by cases h), fun i y G G' le ⟨d, h1, h2⟩ => ⟨d, h1, dp_le le _ _ h2⟩, fun _ _ _ _ _ _ _ _ => trivial, trivial, by omega⟩, fun i x _ hx D2 H16 hD2 nB e1 _ tD N hN => ?_, fun D2 zs2 H16 hD2 hz2 lz2 rz2 e1 _ => ?_⟩)
  · rw [List.mem_singleton.mp ha] at hn
    exact hb (x17.2 b hn)
  · obtain ⟨d, hd, hxD⟩ := dpa_get' hA hx
    rw [List.getElem?_map] at hd
    obtain ⟨d, hd', rfl⟩ := Option.map_eq_some_iff.mp hd
    refine turn x d H16 N (x17.trans e1) (dp_le (Le.trans (wo_le [b] _) (x17.trans e1).le0) _ _ hxD) fun p hp => hN _ _ (Ex.new hp) ⟨d, hd', ?_⟩ trivial
    have nb2 : p ≠ b := fun q => hb (x17.2 b (e1.2 b (by rw [← q]; exact hp)))
    have nD2 : p ≠ D2 := fun q => tD (by rw [← q]; exact hp)
    exact .tup (SqT.of (wo_of (by simp [nb2, nD2]) upd_same)) (.cons (.int _) (.cons (.bl _) .nil))
  · refine fin D2 zs2 H16 (x17.trans e1) hz2 lz2 (dpa_of (by rw [lz2, List.length_map, lyc]) fun i v hv => ?_)
    obtain ⟨d, h1, h2⟩ := rz2 i v hv
    exact ⟨_, by rw [List.getElem?_map, h1]; rfl, h2⟩
def spRight (K : PySem.W.Frag) : Sp := fun vs H Q _ => ∃ (b : Addr) (n : Nat), vs = [.ref b] ∧ Bx b n H ∧ n ≤ 10 ^ 10 ∧ ∀ H', Ex [b] H H' → Q (.bl true) H'
theorem ok_right (T : Txt K mg) : FnG P w K mg base 14 T.a__law_right T.d__law_right P__law_right (spRight K) := by
  have nd := sc__law_right.nd
  have G__law_nest := ok_nest (P := P) (w := w) (base := base) T
  have G__law_same := ok_same (P := P) (w := w) (base := base) T 1
  have G__law_take := ok_T (P := P) (w := w) (base := base) T
  have G__law_bent := fnOk_or (ok_bent (P := P) (w := w) (base := base) T 5) (ok_bent (P := P) (w := w) (base := base) T 3)
  have G__law_wanted := ok_wanted (P := P) (w := w) (base := base) T
  have G_is_hill := ok_is_hill (P := P) (w := w) (base := base) T
  refine okG T.F__law_right sc__law_right (fun vs H Q E h => ?_) (fun cdv A outer s H vs Q E hr hgd h => ?_)
  · obtain ⟨b, n, rfl, _⟩ := h
    rfl
  · obtain ⟨b, n, rfl, hB, hn, q⟩ := h
    have hr__law_nest := hr.mono (show 7 ≤ 13 by decide)
    have hr__law_bent := hr
    have hr__law_same := hr.mono (show 1 + 1 ≤ 13 by decide)
    have hr__law_take := hr.mono (show 5 ≤ 13 by decide)
    have hr__law_wanted := hr.mono (show 2 ≤ 13 by decide)
    have hr_is_hill := hr.mono (show 4 ≤ 13 by decide)
    have hn' : n ≤ 10000000000 := hn
    refine ⟨_, (pss_cons (ps_for PassesOwn.never rfl (pi_range1 (by rfl) T.z_range (pa_cons pe_int pa_nil)) (pg_name (i := 1) nd rfl (Or.inl rfl)) (pss_cons (ps_set (i := 2) nd rfl (Or.inl rfl) (pe_call G__law_nest hr__law_nest (by rfl) T.m__law_nest T.k__law_nest T.b__law_nest .nil pass0 (pa_cons (pv 0) (pa_cons pe_int (pa_cons pe_int (pa_cons pe_int pa_nil))))))
      (pss_cons (ps_asg (pv 2) (pg_tupK K 3 (by rfl) (pgs_cons (pg_name (i := 3) nd rfl (Or.inl rfl)) (pgs_cons (pg_name (i := 4) nd rfl (Or.inl rfl)) (pgs_cons (pg_name (i := 5) nd rfl (Or.inl rfl)) pgs_nil)))))
      (pss_cons (ps_set (i := 6) nd rfl (Or.inl rfl) (pe_lst (pa_cons (pv 2) (pa_cons (pe_callTy (listK K) (by rfl) T.z_list (by decide +kernel) (pa_cons (pv 2) pa_nil)) (pa_cons (pe_tup pa_nil) (pa_cons pe_non (pa_cons pe_int (pa_cons pe_str (pa_cons (pe_tup (pa_cons (pv 3) (pa_cons (pv 4) pa_nil))) (pa_cons (pe_tup (pa_cons (pv 3) (pa_cons (pv 4) (pa_cons (pv 5) (pa_cons (pv 5) pa_nil))))) (pa_cons (pe_tup (pa_cons (pe_tup pa_nil) (pa_cons (pv 4) (pa_cons (pv 5) pa_nil)))) pa_nil)))))))))))
      (pss_cons (ps_set (i := 6) nd rfl (Or.inl rfl) (pe_op op_cat (pv 6) (pe_lst (pa_cons (pe_tup (pa_cons (pv 3) (pa_cons (pe_tup pa_nil) (pa_cons (pv 5) pa_nil)))) (pa_cons (pe_tup (pa_cons (pe_callTy (tupK K) (by rfl) T.z_tuple (by decide +kernel) (pa_cons (pe_lc (own := [("_law_drip", 12), ("_law_lit", 13)]) (by rfl) nd (pi_seqK K (pv 3)) (blkOk_by (N := N__law_right) (own := [("_law_drip", 12), ("_law_lit", 13)]) (sc := defScope s__law_right) (by decide +kernel)) (fun _ _ _ _ _ => (pg_tupK K 2 (by rfl) (pgs_cons (pg_name (i := 12) nd rfl (Or.inl rfl)) (pgs_cons (pg_name (i := 13) nd rfl (Or.inl rfl)) pgs_nil)))) (fun _ _ _ _ _ => pts_nil) (fun _ _ _ _ _ => (pe_tup (pa_cons pe_int (pa_cons (pv 13) pa_nil))))) pa_nil)) (pa_cons (pv 4) (pa_cons (pv 5) pa_nil)))) pa_nil)))))
      (pss_cons (ps_set (i := 6) nd rfl (Or.inl rfl) (pe_op op_cat (pv 6) (pe_lst (pa_cons (pe_tup (pa_cons (pe_callTy (tupK K) (by rfl) T.z_tuple (by decide +kernel) (pa_cons (pe_lc (own := [("_law_drip", 12), ("_law_lit", 13)]) (by rfl) nd (pi_seqK K (pv 3)) (blkOk_by (N := N__law_right) (own := [("_law_drip", 12), ("_law_lit", 13)]) (sc := defScope s__law_right) (by decide +kernel)) (fun _ _ _ _ _ => (pg_tupK K 2 (by rfl) (pgs_cons (pg_name (i := 12) nd rfl (Or.inl rfl)) (pgs_cons (pg_name (i := 13) nd rfl (Or.inl rfl)) pgs_nil)))) (fun _ _ _ _ _ => pts_nil) (fun _ _ _ _ _ => (pe_tup (pa_cons (pv 12) (pa_cons pe_bl pa_nil))))) pa_nil)) (pa_cons (pv 4) (pa_cons (pv 5) pa_nil)))) (pa_cons (pe_tup (pa_cons (pe_tup (pa_cons (pe_tup (pa_cons pe_int (pa_cons pe_bl pa_nil))) pa_nil)) (pa_cons (pe_tup (pa_cons pe_int pa_nil)) (pa_cons pe_int pa_nil)))) pa_nil)))))
      (pss_cons (ps_for PassesOwn.never rfl (pi_range1 (by rfl) T.z_range (pa_cons pe_int pa_nil)) (pg_name (i := 7) nd rfl (Or.inl rfl)) (pss_cons (ps_set (i := 8) nd rfl (Or.inl rfl) (pe_call G__law_bent hr__law_bent (by rfl) T.m__law_bent T.k__law_bent T.b__law_bent .nil pass0 (pa_cons (pv 0) (pa_cons (pv 2) pa_nil))))
      (pss_one (ps_expr (pe_bm PySem.F.plainAttrs_list PySem.F.slot_list_append PySem.F.type_list_append mt_append (pv 6) (pa_cons (pe_ifExp (pt_cmpR op_eq (pe_call G__law_take hr__law_take (by rfl) T.m__law_take T.k__law_take T.b__law_take .nil pass0 (pa_cons (pv 0) (pa_cons pe_int pa_nil))) pe_int (nomark _)) (pe_call G__law_bent hr__law_bent (by rfl) T.m__law_bent T.k__law_bent T.b__law_bent .nil pass0 (pa_cons (pv 0) (pa_cons (pv 8) pa_nil))) (pv 8)) pa_nil))))))
      (pss_one (ps_for PassesOwn.never rfl (pi_listK K (pv 6)) (pg_name (i := 9) nd rfl (Or.inl rfl)) (pss_cons (ps_par (i := 10) (j := 11) (by rfl) nd rfl rfl (by decide) rfl rfl (pa_cons (pe_callB (reprX K hr.units hgd) (by rfl) T.z_repr (by decide +kernel) (pa_cons (pv 9) pa_nil)) (pa_cons (pe_call G__law_wanted hr__law_wanted (by rfl) T.m__law_wanted T.k__law_wanted T.b__law_wanted .nil pass0 (pa_cons (pv 9) pa_nil)) pa_nil)) (by rfl))
      (pss_one (ps_if (PW.pt (pw_or (pt_not (pt_val (pe_call G__law_same hr__law_same (by rfl) T.m__law_same T.k__law_same T.b__law_same .nil pass0 (pa_cons (pe_lst (pa_cons (pe_call G_is_hill hr_is_hill (by rfl) T.m_is_hill T.k_is_hill T.b_is_hill .nil pass0 (pa_cons (pv 9) pa_nil)) (pa_cons (pe_callK0 G_is_hill hr_is_hill (by rfl) T.m_is_hill T.k_is_hill T.kb_is_hill_thing pass0 (pk_cons (pv 9) pk_nil)) pa_nil))) (pa_cons (pe_lst (pa_cons (pv 11) (pa_cons (pv 11) pa_nil))) pa_nil))))) (pw_or1 (pt_cmpR op_ne (pe_callB (reprX K hr.units hgd) (by rfl) T.z_repr (by decide +kernel) (pa_cons (pv 9) pa_nil)) (pv 10) (nomark _))))) (pss_one (ps_ret pe_bl)) pss_nil))))))))))))
      (pss_one (ps_ret pe_bl))), ?_⟩
    walk_at "un"
    refine ⟨4, rfl, by decide, by decide, for_range (lo := 0) (n := 4) (fun i σ H' => ∃ u1 u2 u3 u4 u5 u6 u7 u8 u9 u10 u11 : Option V, σ = [some (.ref b), u1, u2, u3, u4, u5, u6, u7, u8, u9, u10, u11, none, none] ∧ Bx b (n + 30000 * i) H' ∧ Ex [b] H H')
      ⟨none, none, none, none, none, none, none, none, none, none, none, rfl, hB, Ex.refl _ _⟩ (fun i σ H' hi hP => ?_) (fun σ H' hP => ?_)⟩
    · obtain ⟨u1, u2, u3, u4, u5, u6, u7, u8, u9, u10, u11, rfl, B0, x0⟩ := hP
      walk_at "un"
      refine ⟨_, rfl, b, _, 4, 3, 9, rfl, B0, by omega, by decide, by decide, by decide, by decide, by decide, by decide, fun h v H1 hk hD x1 B1 => ?_⟩
      obtain ⟨gh, a, ya, na, ys, rfl, hS, hyS, hyA, hyl, gy, gn, gm⟩ := hill_good hk hD
      refine ⟨_, rfl, a, _, rfl, hS, rfl, _, _, rfl, _, _, rfl, _, _, rfl, rfl, ?_⟩
      have nb : ∀ {G : Hp} {p : Addr}, Ex [] H1 G → G p = none → p ≠ b := fun x hp => (B1.ex x (by simp)).ne hp
      have py : ∀ {G : Hp}, Ex [] H1 G → Gd K b 60 2 G (.ref ya) := fun x => gy.up (Ex.nil x)
      have pn : ∀ {G : Hp}, Ex [] H1 G → Gd K b 60 2 G (.ref na) := fun x => gn.up (Ex.nil x)
      have pm : ∀ {G : Hp}, Ex [] H1 G → Gd K b 60 2 G (.int h.most) := fun x => gm.up (Ex.nil x)
      have G0 : ∀ x ∈ [V.ref a, .non, .int 0, .str "hill"], Gd K b 300 4 H1 x := fun x hx => by
        simp only [List.mem_cons, List.not_mem_nil, or_false] at hx
        rcases hx with rfl | rfl | rfl | rfl
        · exact gh.up (Ex.refl _ _)
        · exact ⟨_, .non, tame_non _ _ _⟩
        · exact gd_int b H1 0 (by decide) _ _
        · exact ⟨_, .str _, tame_str _ _ _ (by decide)⟩
      refine ⟨_, rfl, _, rfl, a, _, rfl, .inr hS, fun l1 hl1 => ?_⟩
      have y1 := Ex.new (B := []) (o := .lst [.ref ya, .ref na, .int h.most]) hl1
      have G1 := gcons (new_lst (xs := [.ref ya, .ref na, .int h.most]) (gmem3 (py (Ex.refl _ _)) (pn (Ex.refl _ _)) (pm (Ex.refl _ _))) (by show 3 ≤ 4; decide) hl1 (nb (Ex.refl _ _) hl1)) (glift G0 y1)
      refine ⟨Nat.zero_le _, fun t0 ht0 => ?_⟩
      have x2 := Ex.new (B := []) (o := .tup []) ht0
      have G2 := gcons (new_tup (xs := []) (by simp) (by decide) ht0 (nb y1 ht0)) (glift G1 x2)
      have y2 := y1.trans x2
      refine ⟨_, rfl, _, rfl, (by show 2 ≤ sizeLine; decide), fun t1 ht1 => ?_⟩
      have x3 := Ex.new (B := []) (o := .tup [.ref ya, .ref na]) ht1
      have G3 := gcons (new_tup (xs := [.ref ya, .ref na]) (gmem2 (py y2) (pn y2)) (by show 2 ≤ 4; decide) ht1 (nb y2 ht1)) (glift G2 x3)
      have y3 := y2.trans x3
      refine ⟨_, rfl, _, rfl, _, rfl, _, rfl, (by show 4 ≤ sizeLine; decide), fun t2 ht2 => ?_⟩
      have x4 := Ex.new (B := []) (o := .tup [.ref ya, .ref na, .int h.most, .int h.most]) ht2
      have G4 := gcons (new_tup (xs := [.ref ya, .ref na, .int h.most, .int h.most]) (gmem4 (py y3) (pn y3) (pm y3) (pm y3)) (by show 4 ≤ 4; decide) ht2 (nb y3 ht2)) (glift G3 x4)
      have y4 := y3.trans x4
      refine ⟨Nat.zero_le _, fun t3 ht3 => ?_⟩
      have x5 := Ex.new (B := []) (o := .tup []) ht3
      have e3 : Gd K b 60 2 _ (.ref t3) := Gd.up (gd_tup (gdA_nil b 0 _) ht3 (nb y4 ht3)) (Ex.refl _ _)
      have y5 := y4.trans x5
      refine ⟨_, rfl, _, rfl, (by show 3 ≤ sizeLine; decide), fun t4 ht4 => ?_⟩
      have x6 := Ex.new (B := []) (o := .tup [.ref t3, .ref na, .int h.most]) ht4
      have G6 := gcons (new_tup (xs := [.ref t3, .ref na, .int h.most]) (gmem3 e3 (pn y5) (pm y5)) (by show 3 ≤ 4; decide) ht4 (nb y5 ht4)) (glift G4 (x5.trans x6))
      have y6 := y5.trans x6
      refine ⟨(by show 9 ≤ sizeLine; decide), fun L0 hL0 => ?_⟩
      have x7 := Ex.new (B := []) (o := .lst [.ref a, .ref l1, .ref t0, .non, .int 0, .str "hill", .ref t1, .ref t2, .ref t4]) hL0
      have y7 := y6.trans x7
      have G7 : ∀ x ∈ [.ref a, .ref l1, .ref t0, .non, .int 0, .str "hill", .ref t1, .ref t2, .ref t4], Gd K b 300 4 _ x := fun x hx => glift G6 x7 x (by
        simp only [List.mem_cons, List.not_mem_nil, or_false] at hx ⊢
        rcases hx with rfl | rfl | rfl | rfl | rfl | rfl | rfl | rfl | rfl <;> simp)
      have f7 := upd_same (H := upd (upd (upd (upd (upd (upd H1 l1 (.lst [.ref ya, .ref na, .int h.most])) t0 (.tup [])) t1 (.tup [.ref ya, .ref na])) t2 (.tup [.ref ya, .ref na, .int h.most, .int h.most])) t3 (.tup [])) t4 (.tup [.ref t3, .ref na, .int h.most])) (a := L0) (o := .lst [.ref a, .ref l1, .ref t0, .non, .int 0, .str "hill", .ref t1, .ref t2, .ref t4])
      generalize upd (upd (upd (upd (upd (upd (upd H1 l1 (.lst [.ref ya, .ref na, .int h.most])) t0 (.tup [])) t1 (.tup [.ref ya, .ref na])) t2 (.tup [.ref ya, .ref na, .int h.most, .int h.most])) t3 (.tup [])) t4 (.tup [.ref t3, .ref na, .int h.most])) L0 (.lst [.ref a, .ref l1, .ref t0, .non, .int 0, .str "hill", .ref t1, .ref t2, .ref t4]) = H7 at f7 y7 G7 ⊢
      clear G6 x7 y6 x6 y5 e3 x5 y4 G4 x4 y3 G3 x3 y2 G2 x2 G1 y1 G0 hL0 ht4 ht3 ht2 ht1 ht0 hl1
      have l7 : [V.ref a, .ref l1, .ref t0, .non, .int 0, .str "hill", .ref t1, .ref t2, .ref t4].length = 9 := rfl
      generalize [V.ref a, .ref l1, .ref t0, .non, .int 0, .str "hill", .ref t1, .ref t2, .ref t4] = T7 at f7 G7 l7 ⊢
      -- + [(year, (), cap), (the year without drops, ..)]
      refine ⟨_, rfl, _, rfl, Nat.zero_le _, fun e1 he1 => ?_⟩
      have x1 := Ex.new (B := []) (o := .tup []) he1
      have c1 : Gd K b 60 2 _ (.ref e1) := Gd.up (gd_tup (gdA_nil b 0 _) he1 (nb y7 he1)) (Ex.refl _ _)
      have y8 := y7.trans x1
      refine ⟨_, rfl, (by show 3 ≤ sizeLine; decide), fun e2 he2 => ?_⟩
      have x2 := Ex.new (B := []) (o := .tup [.ref ya, .ref e1, .int h.most]) he2
      have G8 := gcons (new_tup (xs := [.ref ya, .ref e1, .int h.most]) (gmem3 (py y8) c1 (pm y8)) (by show 3 ≤ 4; decide) he2 (nb y8 he2)) (glift G7 (x1.trans x2))
      have y9 := y8.trans x2
      have f9 := (x1.trans x2).1 L0 _ (by simp) f7
      generalize upd (upd H7 e1 (.tup [])) e2 (.tup [.ref ya, .ref e1, .int h.most]) = H9 at f9 y9 G8 ⊢
      clear x2 y8 c1 x1 he1 he2 G7 f7 y7
      have hyS9 := le_t (le_woT (B := [b]) y9.le0) hyS
      have hyA9 := dpa_le (le_woT (B := [b]) y9.le0) _ _ hyA
      have b9 : H9 b ≠ none := (B1.ex y9 (by simp)).there
      walk_at "un"
      refine lc_days hyS9 hyA9 hyl b9 (fun d => (0, d.2)) (fun R r => ⟨_, rfl, r⟩) (fun x d H' N he hx k => ?_) fun D zs H' x3 hz lz hzA => ?_
      · obtain ⟨p0, xs0, rfl, hS0, hA0⟩ := dp_tup hx
        cases hA0 with | cons h1 hA0 => cases hA0 with | cons h2 hA0 =>
        cases hA0
        obtain rfl := dp_int h1
        obtain rfl := dp_bl h2
        refine ⟨p0, _, rfl, hS0, rfl, _, _, rfl, _, _, rfl, rfl, rfl, ?_⟩
        exact ⟨_, rfl, (by show 2 ≤ sizeLine; decide), fun p hp => k p hp⟩
      have y10 := y9.trans x3
      have G10 := glift G8 x3
      have f10 := x3.1 L0 _ (by simp) f9
      have yd : ∀ {c : List (Int × Bool)} {G : Hp} {zs : List V} {p : Addr}, c.length ≤ 20 → (∀ d ∈ c, d.1.natAbs ≤ 10 ^ 15) → DpAll K (wo [b] G) zs (c.map fun d => sq true [.int d.1, .bool d.2]) → G p = none → p ≠ b → Gd K b 60 2 (upd G p (.tup zs)) (.ref p) := fun {c G zs p} h1 h2 h3 hp np =>
        ⟨_, .tup (SqT.of (wo_of (by simpa using np) upd_same)) (dpa_le (le_woT (B := [b]) (Ex.new (B := []) hp).le0) _ _ h3), tame_year h1 h2⟩
      have hzA' : DpAll K (wo [b] H') zs ((h.year.map fun d => ((0 : Int), d.2)).map fun d => sq true [.int d.1, .bool d.2]) := by rw [List.map_map]; exact hzA
      refine ⟨D, zs, rfl, .inl ⟨SqL.of hz, fun q1 hq1 => ?_⟩⟩
      have z1 := Ex.new (B := []) (o := .tup zs) hq1
      have c1 : Gd K b 60 2 _ (.ref q1) := yd (by rw [List.length_map]; exact hk.y2) (fun d hd => by obtain ⟨e, _, rfl⟩ := List.mem_map.mp hd; exact Nat.zero_le _) hzA' hq1 (nb y10 hq1)
      have y11 := y10.trans z1
      refine ⟨_, rfl, _, rfl, (by show 3 ≤ sizeLine; decide), fun q2 hq2 => ?_⟩
      have z2 := Ex.new (B := []) (o := .tup [.ref q1, .ref na, .int h.most]) hq2
      have G11 := gcons (new_tup (xs := [.ref q1, .ref na, .int h.most]) (gmem3 c1 (pn y11) (pm y11)) (by show 3 ≤ 4; decide) hq2 (nb y11 hq2)) (glift G10 (z1.trans z2))
      have y12 := y11.trans z2
      refine ⟨(by show 2 ≤ sizeLine; decide), fun L1 hL1 => ?_⟩
      have z3 := Ex.new (B := []) (o := .lst [.ref e2, .ref q2]) hL1
      have f11 := ((z1.trans z2).trans z3).1 L0 _ (by simp) f10
      refine ⟨L0, L1, _, _, rfl, rfl, f11, upd_same, ?_, fun L2 hL2 => ?_⟩
      · rw [l7]; show 9 + 2 ≤ sizeLine; decide
      have z4 := Ex.new (B := []) (o := .lst (T7 ++ [V.ref e2, .ref q2])) hL2
      have G12 : ∀ x ∈ T7 ++ [V.ref e2, .ref q2], Gd K b 300 4 _ x := fun x hx => glift G11 (z3.trans z4) x (by
        rcases List.mem_append.mp hx with hx | hx
        · exact List.mem_cons_of_mem _ (List.mem_cons_of_mem _ hx)
        · simp only [List.mem_cons, List.not_mem_nil, or_false] at hx ⊢
          rcases hx with rfl | rfl <;> simp)
      have y13 := (y12.trans z3).trans z4
      have f12 := upd_same (H := upd (upd (upd H' q1 (.tup zs)) q2 (.tup [.ref q1, .ref na, .int h.most])) L1 (.lst [.ref e2, .ref q2])) (a := L2) (o := .lst (T7 ++ [V.ref e2, .ref q2]))
      have l12 : (T7 ++ [V.ref e2, .ref q2]).length = 11 := by rw [List.length_append, l7]; rfl
      generalize upd (upd (upd (upd H' q1 (.tup zs)) q2 (.tup [.ref q1, .ref na, .int h.most])) L1 (.lst [.ref e2, .ref q2])) L2 (.lst (T7 ++ [V.ref e2, .ref q2])) = H12 at f12 y13 G12 ⊢
      generalize T7 ++ [V.ref e2, .ref q2] = T12 at f12 G12 l12 ⊢
      clear z4 f11 hL2 z3 hL1 G11 y12 z2 hq2 y11 c1 z1 hq1 hzA' hzA lz hz f10 G10 y10 x3 b9 hyA9 hyS9 G8 f9 y9 l7
      -- + [(the year all shut, ..), ..]
      have hyS13 := le_t (le_woT (B := [b]) y13.le0) hyS
      have hyA13 := dpa_le (le_woT (B := [b]) y13.le0) _ _ hyA
      have b13 : H12 b ≠ none := (B1.ex y13 (by simp)).there
      walk_at "un"
      refine ⟨_, rfl, ?_⟩
      refine lc_days hyS13 hyA13 hyl b13 (fun d => (d.1, false)) (fun R r => ⟨_, rfl, r⟩) (fun x d H' N he hx k => ?_) fun D zs H' x3 hz lz hzA => ?_
      · obtain ⟨p0, xs0, rfl, hS0, hA0⟩ := dp_tup hx
        cases hA0 with | cons h1 hA0 => cases hA0 with | cons h2 hA0 =>
        cases hA0
        obtain rfl := dp_int h1
        obtain rfl := dp_bl h2
        refine ⟨p0, _, rfl, hS0, rfl, _, _, rfl, _, _, rfl, rfl, rfl, ?_⟩
        exact ⟨_, rfl, (by show 2 ≤ sizeLine; decide), fun p hp => k p hp⟩
      have y14 := y13.trans x3
      have G14 := glift G12 x3
      have f14 := x3.1 L2 _ (by simp) f12
      have hzA' : DpAll K (wo [b] H') zs ((h.year.map fun d => (d.1, false)).map fun d => sq true [.int d.1, .bool d.2]) := by rw [List.map_map]; exact hzA
      refine ⟨D, zs, rfl, .inl ⟨SqL.of hz, fun q1 hq1 => ?_⟩⟩
      have z1 := Ex.new (B := []) (o := .tup zs) hq1
      have e12 : (10 : Int) ^ 12 = 1000000000000 := by decide
      have e15 : 10 ^ 15 = 1000000000000000 := by decide
      have c1 : Gd K b 60 2 _ (.ref q1) := yd (by rw [List.length_map]; exact hk.y2) (fun d hd => by obtain ⟨e, he, rfl⟩ := List.mem_map.mp hd; have := hk.d0 e he; show e.1.natAbs ≤ _; omega) hzA' hq1 (nb y14 hq1)
      have y15 := y14.trans z1
      refine ⟨_, rfl, _, rfl, (by show 3 ≤ sizeLine; decide), fun q2 hq2 => ?_⟩
      have z2 := Ex.new (B := []) (o := .tup [.ref q1, .ref na, .int h.most]) hq2
      have G15 := gcons (new_tup (xs := [.ref q1, .ref na, .int h.most]) (gmem3 c1 (pn y15) (pm y15)) (by show 3 ≤ 4; decide) hq2 (nb y15 hq2)) (glift G14 (z1.trans z2))
      have y16 := y15.trans z2
      refine ⟨(by show 2 ≤ sizeLine; decide), fun w1 hw1 => ?_⟩
      have z3 := Ex.new (B := []) (o := .tup [.int 1, .bl true]) hw1
      have d1 := gd_tup (K := K) (gdA_cons (gd_int b _ 1 (by decide) 0 0) (gdA_cons (gd_bl b _ true 0 0) (gdA_nil b 0 _))) hw1 (nb y16 hw1)
      have y17 := y16.trans z3
      refine ⟨(by show 1 ≤ sizeLine; decide), fun w2 hw2 => ?_⟩
      have z4 := Ex.new (B := []) (o := .tup [.ref w1]) hw2
      have d2 : Gd K b 60 2 _ (.ref w2) := (gd_tup (gdA_cons d1 (gdA_nil b _ _)) hw2 (nb y17 hw2)).up (Ex.refl _ _)
      have y18 := y17.trans z4
      refine ⟨(by show 1 ≤ sizeLine; decide), fun w3 hw3 => ?_⟩
      have z5 := Ex.new (B := []) (o := .tup [.int 1]) hw3
      have d3 : Gd K b 60 2 _ (.ref w3) := (gd_tup (gdA_cons (gd_int b _ 1 (by decide) 0 0) (gdA_nil b 0 _)) hw3 (nb y18 hw3)).up (Ex.refl _ _)
      have d2' := d2.up (Ex.nil z5) (W' := 60) (D' := 2)
      have y19 := y18.trans z5
      refine ⟨(by show 3 ≤ sizeLine; decide), fun w4 hw4 => ?_⟩
      have z6 := Ex.new (B := []) (o := .tup [.ref w2, .ref w3, .int 0]) hw4
      have G16 := gcons (new_tup (xs := [.ref w2, .ref w3, .int 0]) (gmem3 d2' d3 (gd_int b _ 0 (by decide) 60 2)) (by show 3 ≤ 4; decide) hw4 (nb y19 hw4)) (glift G15 (((z3.trans z4).trans z5).trans z6))
      have y20 := y19.trans z6
      refine ⟨(by show 2 ≤ sizeLine; decide), fun L3 hL3 => ?_⟩
      have z7 := Ex.new (B := []) (o := .lst [.ref q2, .ref w4]) hL3
      have f16 := ((((((z1.trans z2).trans z3).trans z4).trans z5).trans z6).trans z7).1 L2 _ (by simp) f14
      refine ⟨L2, L3, _, _, rfl, rfl, f16, upd_same, ?_, fun L4 hL4 => ?_⟩
      · rw [l12]; show 11 + 2 ≤ sizeLine; decide
      have z8 := Ex.new (B := []) (o := .lst (T12 ++ [V.ref q2, .ref w4])) hL4
      have G17 : ∀ x ∈ T12 ++ [V.ref q2, .ref w4], Gd K b 300 4 _ x := glift (H := _) (fun x hx => (glift G16 z7) x (by
        rcases List.mem_append.mp hx with hx | hx
        · exact List.mem_cons_of_mem _ (List.mem_cons_of_mem _ hx)
        · simp only [List.mem_cons, List.not_mem_nil, or_false] at hx ⊢
          rcases hx with rfl | rfl <;> simp)) (Ex.refl [] _)
      have y21 := y20.trans z7
      have l17 : (T12 ++ [V.ref q2, .ref w4]).length = 13 := by rw [List.length_append, l12]; rfl
      have nL4 : L4 ≠ b := nb y21 hL4
      generalize upd (upd (upd (upd (upd (upd (upd H' q1 (.tup zs)) q2 (.tup [.ref q1, .ref na, .int h.most])) w1 (.tup [.int 1, .bl true])) w2 (.tup [.ref w1])) w3 (.tup [.int 1])) w4 (.tup [.ref w2, .ref w3, .int 0])) L3 (.lst [.ref q2, .ref w4]) = H17 at z8 y21 G17 hL4 ⊢
      generalize T12 ++ [V.ref q2, .ref w4] = T17 at z8 G17 l17 ⊢
      clear f16 z7 hL3 y20 G16 z6 hw4 y19 d2' d3 z5 hw3 y18 d2 z4 hw2 y17 d1 z3 hw1 y16 G15 z2 hq2 y15 c1 z1 hq1 hzA' hzA lz hz f14 G14 y14 x3 b13 hyA13 hyS13 G12 f12 y13 l12
      have x4' := Ex.new (B := []) (o := .lst T17) hL4
      have tL : L4 ≠ b := nL4
      have n4 : H1 L4 = none := y21.free hL4
      have y22 := y21.trans x4'
      have e14 : n + 30000 * i + 5000 ≤ n + 30000 * i + 5000 := Nat.le_refl _
      have tr : ∀ {G : Hp}, Ex [b] (upd H17 L4 (.lst T17)) G → ∀ c ∈ [L4, b], G c ≠ none := fun x c hc z => by
        have := x.2 c z
        simp only [List.mem_cons, List.not_mem_nil, or_false] at hc
        rcases hc with rfl | rfl
        · rw [upd_same] at this; cases this
        · exact (B1.ex y22 (by simp)).there this
      -- twelve times one thing otherwise
      refine ⟨12, rfl, by decide, by decide, for_range (lo := 0) (n := 12) (fun j σ H' => ∃ (w7 w8 : Option V) (us : List V), σ = [some (.ref b), some (.int (0 + (i : Int))), some (.ref a), some (.ref ya), some (.ref na), some (.int h.most), some (.ref L4), w7, w8, u9, u10, u11, none, none] ∧ H' L4 = some (.lst us) ∧ us.length = 13 + j ∧ (∀ x ∈ us, GdB K [L4, b] H' x) ∧ Ex [b] H1 H' ∧ Bx b (n + 30000 * i + 5000 + 1100 * j) H' ∧ ∀ c ∈ [L4, b], H' c ≠ none)
        ⟨_, _, T17, rfl, upd_same, l17, fun x hx => ?_, Ex.nil y22, (B1.ex y22 (by simp)).mono (by omega), tr (Ex.refl _ _)⟩ (fun j σ H' hj hP => ?_) (fun σ H' hP => ?_)⟩
      · obtain ⟨d, h1, h2⟩ := G17 x hx
        refine ⟨d, dp_le (fun c o e => ?_) _ _ h1, h2.mono (by decide) (by decide) (by decide)⟩
        obtain ⟨n1, n2⟩ := wo_some e
        have nc : c ≠ L4 := ne_of_none n2 hL4
        exact wo_of (by simp at n1 ⊢; exact ⟨nc, n1⟩) (by rw [upd_ne nc]; exact n2)
      · obtain ⟨w7, w8, us, rfl, eT, lus, hus, x7, B9, trk⟩ := hP
        obtain ⟨dh, hdh, th⟩ := gh
        have up : ∀ {G : Hp}, Ex [b] H1 G → Le (wo [b] H1) (wo [L4, b] G) := fun x c o e => by
          obtain ⟨n1, n2⟩ := wo_some e
          have nc : c ≠ L4 := ne_of_none n2 n4
          exact wo_of (by simp at n1 ⊢; exact ⟨nc, n1⟩) (x.1 _ _ n1 n2)
        walk_at "un"
        refine ⟨_, rfl, _, rfl, .inr ⟨b, _, .ref a, dh, 10 ^ 15, 83, [L4, b], rfl, B9, by omega, by simp, trk, dp_le (up x7) _ _ hdh, th, by decide, by decide, by decide, fun z e H2 hz te x2 B2 => ?_⟩⟩
        have tb : L4 ∉ [b] := by simpa using tL
        have eT2 := x2.1 _ _ tb eT
        have keep : ∀ {G G' : Hp}, Ex [b] G G' → Le (wo [L4, b] G) (wo [L4, b] G') := fun x c o e => by
          obtain ⟨n1, n2⟩ := wo_some e
          exact wo_of n1 (x.1 _ _ (by simp at n1 ⊢; exact n1.2) n2)
        have trk2 : ∀ {G : Hp}, Ex [b] H' G → ∀ c ∈ [L4, b], G c ≠ none := fun x c hc q => trk c hc (x.2 c q)
        have fin : ∀ (z' : V) (m : Nat) (G : Hp), GdB K [L4, b] G z' → Ex [b] H' G → Bx b m G → m ≤ n + 30000 * i + 5000 + 1100 * j + 1100 → rAppend (.ref L4) [z'] G fun _ H' => (∃ (w7 w8 : Option V) (us : List V), [some (V.ref b), some (V.int (0 + (i : Int))), some (V.ref a), some (V.ref ya), some (V.ref na), some (V.int h.most), some (V.ref L4), some (V.int (0 + (j : Int))), some z, u9, u10, u11, none, none] = [some (.ref b), some (.int (0 + (i : Int))), some (.ref a), some (.ref ya), some (.ref na), some (.int h.most), some (.ref L4), w7, w8, u9, u10, u11, none, none] ∧ H' L4 = some (.lst us) ∧ us.length = 13 + (j + 1) ∧ (∀ x ∈ us, GdB K [L4, b] H' x) ∧ Ex [b] H1 H' ∧ Bx b (n + 30000 * i + 5000 + 1100 * (j + 1)) H' ∧ ∀ c ∈ [L4, b], H' c ≠ none) := fun z' m G gz xG BG hm => by
          have eG := xG.1 _ _ tb eT
          refine ⟨L4, us, _, rfl, rfl, eG, sz_lt (by omega), _, _, us ++ [z'], rfl, upd_same, by rw [List.length_append, lus]; rfl, fun x hx => ?_, (x7.trans xG).mutNew' n4, ?_, fun c hc q => ?_⟩
          · have lm : Le (wo [L4, b] G) (wo [L4, b] (upd G L4 (.lst (us ++ [z'])))) := fun c o e => by
              obtain ⟨n1, n2⟩ := wo_some e
              exact wo_of n1 (by rw [upd_ne (fun q => n1 (by rw [q]; exact List.mem_cons_self))]; exact n2)
            rcases List.mem_append.mp hx with hx | hx
            · obtain ⟨d, h1, h2⟩ := hus x hx
              exact ⟨d, dp_le (Le.trans (keep xG) lm) _ _ h1, h2⟩
            · rw [List.mem_singleton.mp hx]
              obtain ⟨d, h1, h2⟩ := gz
              exact ⟨d, dp_le lm _ _ h1, h2⟩
          · exact (BG.ex (Ex.mut (B := [L4]) (by simp)) (by simpa using tL.symm)).mono (by omega)
          · exact trk2 xG c hc (upd_free q)
        refine ⟨_, rfl, .inl ⟨rfl, us, SqL.of eT2⟩, ?_⟩
        refine ⟨_, rfl, b, 3, _, rfl, B2, by omega, by decide, by decide, fun r H3 r0 r1 x3 B3 => ⟨rfl, _, rfl, ite2 (fun c => ?_) (fun c => ?_)⟩⟩
        · refine ⟨_, rfl, _, rfl, .inl ⟨b, _, z, e, 10 ^ 15 + 1, 2 * 83 + 31, [L4, b], rfl, B3, by omega, by simp, trk2 (x2.trans x3), dp_le (keep x3) _ _ hz, te, by decide, by decide, by decide, fun z2 e2 H4 hz2 te2 x4 B4 => ?_⟩⟩
          exact fin z2 _ H4 ⟨e2, hz2, te2.mono (by decide) (by decide) (by decide)⟩ ((x2.trans x3).trans x4) B4 (by omega)
        · exact ⟨_, rfl, fin z _ H3 ⟨e, dp_le (keep x3) _ _ hz, te.mono (by decide) (by decide) (by decide)⟩ (x2.trans x3) B3 (by omega)⟩
      · obtain ⟨w7, w8, us, rfl, eT, lus, hus, x7, B9, trk⟩ := hP
        walk_at "un"
        have lu : us.length < 100000 := by rw [lus]; decide
        refine ⟨_, rfl, L4, rfl, ⟨us, SqL.of eT⟩, for_list (xs := us) (fun j σ H'' => ∃ w9 w10 w11 : Option V, σ = [some (.ref b), some (.int (0 + (i : Int))), some (.ref a), some (.ref ya), some (.ref na), some (.int h.most), some (.ref L4), w7, w8, w9, w10, w11, none, none] ∧ Ex [] H' H'')
          ⟨_, _, _, rfl, Ex.refl _ _⟩ (fun j σ H'' _ ⟨_, _, _, _, e⟩ => SqL.of (e.1 _ _ (by simp) eT)) (fun j x σ H'' hx hP => ?_) (fun σ H'' hP => ?_)⟩
        · obtain ⟨w9, w10, w11, rfl, xe⟩ := hP
          obtain ⟨d, hdx, td⟩ := hus x (List.mem_of_getElem? hx)
          have hdx0 : Dp K H'' x d := dp_le (Le.trans (wo_le _ _) xe.le0) _ _ hdx
          have dp20 := dpt_up (m := 20) (td.dpt (by decide)) (by decide)
          walk_at "un"
          refine ⟨_, rfl, td.repr (by decide) (by decide) (by decide) hdx0 ⟨_, rfl, x, d, rfl, hdx0, dp20, fun y r m e => ?_, fun G1 y1 => ?_⟩⟩
          · subst e
            obtain ⟨t1, _⟩ := tame_parts (t := true) (D := 7) td
            obtain ⟨a1, a2, a3⟩ := t1 r (by simp)
            unfold SeqAt.shaped
            rw [a1, decide_eq_true (by omega)]
            rfl
          refine ⟨_, _, rfl, ?_⟩
          have hd1 := dp_le y1.le0 _ _ hdx0
          refine ⟨_, rfl, x, d, rfl, hd1, dp20, fun G2 y2 => ?_⟩
          have hd2 := dp_le y2.le0 _ _ hd1
          refine ⟨_, rfl, x, d, rfl, hd2, dp20, fun G3 y3 => ?_⟩
          have hd3 := dp_le y3.le0 _ _ hd2
          refine ⟨(by show 2 ≤ sizeLine; decide), fun q1 hq1 => ?_⟩
          have y5 := Ex.new (B := []) (o := .lst [.bl (hillD d), .bl (hillD d)]) hq1
          refine ⟨_, rfl, _, rfl, (by show 2 ≤ sizeLine; decide), fun q2 hq2 => ?_⟩
          have y6 := Ex.new (B := []) (o := .lst [.bl (hillD d), .bl (hillD d)]) hq2
          refine ⟨.ref q1, .ref q2, .list [.bool (hillD d), .bool (hillD d)], rfl, .lst (SqL.of (y6.1 _ _ (by simp) upd_same)) (.cons (.bl _) (.cons (.bl _) .nil)), .lst (SqL.of upd_same) (.cons (.bl _) (.cons (.bl _) .nil)), ⟨by show 2 ≤ 1000; decide, fun e he => ?_⟩, fun G7 y7 => ?_⟩
          · simp only [List.mem_cons, List.not_mem_nil, or_false] at he
            rcases he with rfl | rfl <;> trivial
          have y37 := (y5.trans y6).trans y7
          have hd7 := dp_le y37.le0 _ _ hd3
          refine ⟨_, rfl, iteF ⟨_, rfl, td.repr (by decide) (by decide) (by decide) hd7 ⟨_, rfl, rfl, _, rfl, ?_⟩⟩⟩
          rw [decide_eq_true rfl]
          exact iteF ⟨_, _, _, rfl, (xe.trans ((y1.trans y2).trans y3)).trans y37⟩
        · obtain ⟨w9, w10, w11, rfl, xe⟩ := hP
          exact ⟨_, _, _, _, _, _, _, _, _, _, _, rfl, (B9.ex xe (by simp)).mono (by omega), ((x0.trans x1).trans x7).trans (Ex.nil xe)⟩
    · obtain ⟨u1, u2, u3, u4, u5, u6, u7, u8, u9, u10, u11, rfl, B0, x0⟩ := hP
      exact q H' x0
end
end Z01
set_option Elab.async false
set_option linter.all false
set_option maxRecDepth 100000
set_option maxHeartbeats 4000000
namespace Z01
open PySem PySem.Spec PyProof.Rows L2 Hz
section
variable {P : Program} {w : World} {K : PySem.W.Frag} {mg : Str → Option Value} {base : Heap}
local macro_rules | `(tactic| walk_at "un") => `(tactic| dsimp only [tSeq, tIfS, tRet, tAsg, tDrop, tOr, tAnd, tNot, tAndV, tOrV, tNotV, tTest, tB, tOp, tUn, tCB, tCons, tNil, tC, tNext, tIf, tChain, gName, tPar, tPar3, tTup, tLst])
def lawLevel : Nat := 15
def spLaw (K : PySem.W.Frag) : Sp := fun vs H Q _ => ∃ (a : Addr) (ns : List Int), vs = [.ref a] ∧ SqL K H a (ns.map V.int) ∧ ns.length ≤ 63 ∧ ∀ H', Q (.bl true) H'
theorem ok_law (T : Txt K mg) : FnG P w K mg base lawLevel T.a_law T.d_law P_law (spLaw K) := by
  have nd := sc_law.nd
  have G__law_folded := ok_folded (P := P) (w := w) (base := base) T
  have G__law_box := ok_box (P := P) (w := w) (base := base) T
  have G__law_right := ok_right (P := P) (w := w) (base := base) T
  refine okG T.F_law sc_law (fun vs H Q E h => ?_) (fun cdv A outer s H vs Q E hr hgd h => ?_)
  · obtain ⟨a, ns, rfl, _⟩ := h
    rfl
  · obtain ⟨a, ns, rfl, hS, hn, q⟩ := h
    have hr__law_folded := hr.mono (show 1 ≤ 14 by decide)
    have hr__law_box := hr.mono (show 1 ≤ 14 by decide)
    have hr__law_right := hr
    refine ⟨_, (pss_cons (ps_set (i := 1) nd rfl (Or.inr rfl) (pe_call G__law_folded hr__law_folded (by rfl) T.m__law_folded T.k__law_folded T.b__law_folded .nil pass0 (pa_cons (pv 0) (pa_cons pe_int pa_nil))))
      (pss_one (ps_ret (pe_callB (allK K) (by rfl) T.z_all (by decide +kernel) (pa_cons (pe_lc (own := [("_law_k", 2)]) (by rfl) nd (pi_range1 (by rfl) T.z_range (pa_cons (pe_callB (call_max2 rfl) (by rfl) T.z_max (by decide +kernel) (pa_cons pe_int (pa_cons (pe_callB (lenK K) (by rfl) T.z_len (by decide +kernel) (pa_cons (pv 1) pa_nil)) pa_nil))) pa_nil)) (blkOk_by (N := N_law) (own := [("_law_k", 2)]) (sc := defScope s_law) (by decide +kernel)) (fun _ _ _ _ _ => pg_name (i := 2) nd rfl (Or.inl rfl)) (fun _ _ _ _ _ => pts_nil) (fun _ _ _ _ _ => (pe_callG G__law_right hr__law_right hgd (by rfl) T.m__law_right T.k__law_right T.b__law_right (pa_cons (pe_call G__law_box hr__law_box (by rfl) T.m__law_box T.k__law_box T.b__law_box .nil pass0 (pa_cons (pv 1) (pa_cons (pv 2) pa_nil))) pa_nil)))) pa_nil))))), ?_⟩
    walk_at "un"
    refine ⟨_, rfl, a, ns, 3, rfl, hS, hn, by decide, by decide, fun p H1 ms hp x1 hm lm => ?_⟩
    walk_at "un"
    have hC : SqL K H1 p (ms.map V.int) := SqL.of hm
    refine z_lcR (B := []) (C := []) (lo := 0) (n := (if ((ms.map V.int).length : Int) > 1 then ((ms.map V.int).length : Int) else 1).toNat)
      (fun R r => ⟨_, rfl, _, _, rfl, .inl hC, _, _, rfl, _, rfl, by split <;> omega, by rw [List.length_map]; split <;> omega, r H1 (Ex.refl _ _)⟩) (fun _ z _ => z = .bl true) (fun _ _ => True)
      (fun H2 x2 => ⟨lcOk0 (by rw [List.length_map]; split <;> omega), fun i x hi hx D H' hD' nB e1 _ tD N hN => ?_, fun D zs H' hD' hz lz rz e1 _ => ?_⟩)
    · subst hx
      rw [Int.zero_add]
      have hi4 : i < 64 := by rw [List.length_map] at hi; split at hi <;> omega
      refine ⟨rfl, _, rfl, _, rfl, p, ms, i, rfl, le_l (x2.trans e1).le0 hC, hi4, fun pb H4 hpb x4 B4 => ?_⟩
      refine ⟨pb, 0, rfl, B4, by decide, fun H5 x5 => ?_⟩
      exact hN _ H5 (Ex.drop hpb ((Ex.nil x4).trans x5)) rfl trivial
    · have ez : zs = (List.replicate zs.length true).map V.bl := by
        apply List.ext_getElem?
        intro j
        rw [List.map_replicate]
        by_cases c : j < zs.length
        · rw [List.getElem?_eq_getElem c, rz j _ (List.getElem?_eq_getElem c), List.getElem?_replicate, if_pos c]
        · rw [List.getElem?_eq_none (by omega), List.getElem?_eq_none (by rw [List.length_replicate]; omega)]
      refine ⟨D, List.replicate zs.length true, rfl, SqL.of (by rw [hz, ← ez]), ?_⟩
      have ea : (List.replicate zs.length true).all id = true := by
        rw [List.all_eq_true]
        intro z hz
        rw [List.eq_of_mem_replicate hz]
        rfl
      rw [ea]
      exact q H'
end
theorem all_mk {l : PySem.W.OpenLaw} {w : World} {K : PySem.W.Frag} {h : Heap} {mg : Str → Option Value} {fa : Addr} (X : K.In h) (G : h.Ns mainGlobals mg) (hfa : mg "law" = some (.ref fa))
    {f0 : Addr} {od0 an0 : Option Addr} {sl0 : Array (Option Value)} {oc0 kV0 dc0 pm0 cd0 ct0 : Value}
    (a0 : PySem.W.nsIn K mainGlobals "is_number" = some (some (.ref f0))) (l0 : K.lookup f0 = some ⟨oc0, od0, .func (PySem.W.fnOf "is_number" "is_number" (defArgs s_is_number) (defBody s_is_number) (defScope s_is_number) .none kV0 dc0 pm0 an0 cd0 ct0), sl0⟩) (c0 : PySem.W.codeIn K cd0 "is_number" = true) (k0 : PySem.W.keepIn K (.ref f0) = true)
    {f1 : Addr} {od1 an1 : Option Addr} {sl1 : Array (Option Value)} {oc1 kV1 dc1 pm1 cd1 ct1 : Value}
    (a1 : PySem.W.nsIn K mainGlobals "is_tuple_of" = some (some (.ref f1))) (l1 : K.lookup f1 = some ⟨oc1, od1, .func (PySem.W.fnOf "is_tuple_of" "is_tuple_of" (defArgs s_is_tuple_of) (defBody s_is_tuple_of) (defScope s_is_tuple_of) .none kV1 dc1 pm1 an1 cd1 ct1), sl1⟩) (c1 : PySem.W.codeIn K cd1 "is_tuple_of" = true) (k1 : PySem.W.keepIn K (.ref f1) = true)
    {f2 : Addr} {od2 an2 : Option Addr} {sl2 : Array (Option Value)} {oc2 kV2 dc2 pm2 cd2 ct2 : Value}
    (a2 : PySem.W.nsIn K mainGlobals "is_day" = some (some (.ref f2))) (l2 : K.lookup f2 = some ⟨oc2, od2, .func (PySem.W.fnOf "is_day" "is_day" (defArgs s_is_day) (defBody s_is_day) (defScope s_is_day) .none kV2 dc2 pm2 an2 cd2 ct2), sl2⟩) (c2 : PySem.W.codeIn K cd2 "is_day" = true) (k2 : PySem.W.keepIn K (.ref f2) = true)
    {f3 : Addr} {od3 an3 : Option Addr} {sl3 : Array (Option Value)} {oc3 kV3 dc3 pm3 cd3 ct3 : Value}
    (a3 : PySem.W.nsIn K mainGlobals "is_year" = some (some (.ref f3))) (l3 : K.lookup f3 = some ⟨oc3, od3, .func (PySem.W.fnOf "is_year" "is_year" (defArgs s_is_year) (defBody s_is_year) (defScope s_is_year) .none kV3 dc3 pm3 an3 cd3 ct3), sl3⟩) (c3 : PySem.W.codeIn K cd3 "is_year" = true) (k3 : PySem.W.keepIn K (.ref f3) = true)
    {f4 : Addr} {od4 an4 : Option Addr} {sl4 : Array (Option Value)} {oc4 kV4 dc4 pm4 cd4 ct4 : Value}
    (a4 : PySem.W.nsIn K mainGlobals "is_ring" = some (some (.ref f4))) (l4 : K.lookup f4 = some ⟨oc4, od4, .func (PySem.W.fnOf "is_ring" "is_ring" (defArgs s_is_ring) (defBody s_is_ring) (defScope s_is_ring) .none kV4 dc4 pm4 an4 cd4 ct4), sl4⟩) (c4 : PySem.W.codeIn K cd4 "is_ring" = true) (k4 : PySem.W.keepIn K (.ref f4) = true)
    {f5 : Addr} {od5 an5 : Option Addr} {sl5 : Array (Option Value)} {oc5 kV5 dc5 pm5 cd5 ct5 : Value}
    (a5 : PySem.W.nsIn K mainGlobals "is_hill" = some (some (.ref f5))) (l5 : K.lookup f5 = some ⟨oc5, od5, .func (PySem.W.fnOf "is_hill" "is_hill" (defArgs s_is_hill) (defBody s_is_hill) (defScope s_is_hill) .none kV5 dc5 pm5 an5 cd5 ct5), sl5⟩) (c5 : PySem.W.codeIn K cd5 "is_hill" = true) (k5 : PySem.W.keepIn K (.ref f5) = true)
    {f6 : Addr} {od6 an6 : Option Addr} {sl6 : Array (Option Value)} {oc6 kV6 dc6 pm6 cd6 ct6 : Value}
    (a6 : PySem.W.nsIn K mainGlobals "_law_box" = some (some (.ref f6))) (l6 : K.lookup f6 = some ⟨oc6, od6, .func (PySem.W.fnOf "_law_box" "_law_box" (defArgs s__law_box) (defBody s__law_box) (defScope s__law_box) .none kV6 dc6 pm6 an6 cd6 ct6), sl6⟩) (c6 : PySem.W.codeIn K cd6 "_law_box" = true) (k6 : PySem.W.keepIn K (.ref f6) = true)
    {f7 : Addr} {od7 an7 : Option Addr} {sl7 : Array (Option Value)} {oc7 kV7 dc7 pm7 cd7 ct7 : Value}
    (a7 : PySem.W.nsIn K mainGlobals "_law_take" = some (some (.ref f7))) (l7 : K.lookup f7 = some ⟨oc7, od7, .func (PySem.W.fnOf "_law_take" "_law_take" (defArgs s__law_take) (defBody s__law_take) (defScope s__law_take) .none kV7 dc7 pm7 an7 cd7 ct7), sl7⟩) (c7 : PySem.W.codeIn K cd7 "_law_take" = true) (k7 : PySem.W.keepIn K (.ref f7) = true)
    {f8 : Addr} {od8 an8 : Option Addr} {sl8 : Array (Option Value)} {oc8 kV8 dc8 pm8 cd8 ct8 : Value}
    (a8 : PySem.W.nsIn K mainGlobals "_law_folded" = some (some (.ref f8))) (l8 : K.lookup f8 = some ⟨oc8, od8, .func (PySem.W.fnOf "_law_folded" "_law_folded" (defArgs s__law_folded) (defBody s__law_folded) (defScope s__law_folded) .none kV8 dc8 pm8 an8 cd8 ct8), sl8⟩) (c8 : PySem.W.codeIn K cd8 "_law_folded" = true) (k8 : PySem.W.keepIn K (.ref f8) = true)
    {f9 : Addr} {od9 an9 : Option Addr} {sl9 : Array (Option Value)} {oc9 kV9 dc9 pm9 cd9 ct9 : Value}
    (a9 : PySem.W.nsIn K mainGlobals "_law_same" = some (some (.ref f9))) (l9 : K.lookup f9 = some ⟨oc9, od9, .func (PySem.W.fnOf "_law_same" "_law_same" (defArgs s__law_same) (defBody s__law_same) (defScope s__law_same) .none kV9 dc9 pm9 an9 cd9 ct9), sl9⟩) (c9 : PySem.W.codeIn K cd9 "_law_same" = true) (k9 : PySem.W.keepIn K (.ref f9) = true)
    {f10 : Addr} {od10 an10 : Option Addr} {sl10 : Array (Option Value)} {oc10 kV10 dc10 pm10 cd10 ct10 : Value}
    (a10 : PySem.W.nsIn K mainGlobals "_law_of" = some (some (.ref f10))) (l10 : K.lookup f10 = some ⟨oc10, od10, .func (PySem.W.fnOf "_law_of" "_law_of" (defArgs s__law_of) (defBody s__law_of) (defScope s__law_of) .none kV10 dc10 pm10 an10 cd10 ct10), sl10⟩) (c10 : PySem.W.codeIn K cd10 "_law_of" = true) (k10 : PySem.W.keepIn K (.ref f10) = true)
    {f11 : Addr} {od11 an11 : Option Addr} {sl11 : Array (Option Value)} {oc11 kV11 dc11 pm11 cd11 ct11 : Value}
    (a11 : PySem.W.nsIn K mainGlobals "_law_nest" = some (some (.ref f11))) (l11 : K.lookup f11 = some ⟨oc11, od11, .func (PySem.W.fnOf "_law_nest" "_law_nest" (defArgs s__law_nest) (defBody s__law_nest) (defScope s__law_nest) .none kV11 dc11 pm11 an11 cd11 ct11), sl11⟩) (c11 : PySem.W.codeIn K cd11 "_law_nest" = true) (k11 : PySem.W.keepIn K (.ref f11) = true)
    {f12 : Addr} {od12 an12 : Option Addr} {sl12 : Array (Option Value)} {oc12 kV12 dc12 pm12 cd12 ct12 : Value}
    (a12 : PySem.W.nsIn K mainGlobals "_law_is_count" = some (some (.ref f12))) (l12 : K.lookup f12 = some ⟨oc12, od12, .func (PySem.W.fnOf "_law_is_count" "_law_is_count" (defArgs s__law_is_count) (defBody s__law_is_count) (defScope s__law_is_count) .none kV12 dc12 pm12 an12 cd12 ct12), sl12⟩) (c12 : PySem.W.codeIn K cd12 "_law_is_count" = true) (k12 : PySem.W.keepIn K (.ref f12) = true)
    {f13 : Addr} {od13 an13 : Option Addr} {sl13 : Array (Option Value)} {oc13 kV13 dc13 pm13 cd13 ct13 : Value}
    (a13 : PySem.W.nsIn K mainGlobals "_law_wanted" = some (some (.ref f13))) (l13 : K.lookup f13 = some ⟨oc13, od13, .func (PySem.W.fnOf "_law_wanted" "_law_wanted" (defArgs s__law_wanted) (defBody s__law_wanted) (defScope s__law_wanted) .none kV13 dc13 pm13 an13 cd13 ct13), sl13⟩) (c13 : PySem.W.codeIn K cd13 "_law_wanted" = true) (k13 : PySem.W.keepIn K (.ref f13) = true)
    {f14 : Addr} {od14 an14 : Option Addr} {sl14 : Array (Option Value)} {oc14 kV14 dc14 pm14 cd14 ct14 : Value}
    (a14 : PySem.W.nsIn K mainGlobals "_law_odd" = some (some (.ref f14))) (l14 : K.lookup f14 = some ⟨oc14, od14, .func (PySem.W.fnOf "_law_odd" "_law_odd" (defArgs s__law_odd) (defBody s__law_odd) (defScope s__law_odd) .none kV14 dc14 pm14 an14 cd14 ct14), sl14⟩) (c14 : PySem.W.codeIn K cd14 "_law_odd" = true) (k14 : PySem.W.keepIn K (.ref f14) = true)
    {f15 : Addr} {od15 an15 : Option Addr} {sl15 : Array (Option Value)} {oc15 kV15 dc15 pm15 cd15 ct15 : Value}
    (a15 : PySem.W.nsIn K mainGlobals "_law_bent" = some (some (.ref f15))) (l15 : K.lookup f15 = some ⟨oc15, od15, .func (PySem.W.fnOf "_law_bent" "_law_bent" (defArgs s__law_bent) (defBody s__law_bent) (defScope s__law_bent) .none kV15 dc15 pm15 an15 cd15 ct15), sl15⟩) (c15 : PySem.W.codeIn K cd15 "_law_bent" = true) (k15 : PySem.W.keepIn K (.ref f15) = true)
    {f16 : Addr} {od16 an16 : Option Addr} {sl16 : Array (Option Value)} {oc16 kV16 dc16 pm16 cd16 ct16 : Value}
    (a16 : PySem.W.nsIn K mainGlobals "_law_right" = some (some (.ref f16))) (l16 : K.lookup f16 = some ⟨oc16, od16, .func (PySem.W.fnOf "_law_right" "_law_right" (defArgs s__law_right) (defBody s__law_right) (defScope s__law_right) .none kV16 dc16 pm16 an16 cd16 ct16), sl16⟩) (c16 : PySem.W.codeIn K cd16 "_law_right" = true) (k16 : PySem.W.keepIn K (.ref f16) = true)
    {f17 : Addr} {od17 an17 : Option Addr} {sl17 : Array (Option Value)} {oc17 kV17 dc17 pm17 cd17 ct17 : Value}
    (a17 : PySem.W.nsIn K mainGlobals "law" = some (some (.ref f17))) (l17 : K.lookup f17 = some ⟨oc17, od17, .func (PySem.W.fnOf "law" "law" (defArgs s_law) (defBody s_law) (defScope s_law) .none kV17 dc17 pm17 an17 cd17 ct17), sl17⟩) (c17 : PySem.W.codeIn K cd17 "law" = true) (k17 : PySem.W.keepIn K (.ref f17) = true)
    (z0 : PySem.W.nsIn K mainGlobals "len" = some none)
    (z1 : PySem.W.nsIn K mainGlobals "abs" = some none)
    (z2 : PySem.W.nsIn K mainGlobals "divmod" = some none)
    (z3 : PySem.W.nsIn K mainGlobals "sum" = some none)
    (z4 : PySem.W.nsIn K mainGlobals "all" = some none)
    (z5 : PySem.W.nsIn K mainGlobals "any" = some none)
    (z6 : PySem.W.nsIn K mainGlobals "int" = some none)
    (z7 : PySem.W.nsIn K mainGlobals "bool" = some none)
    (z8 : PySem.W.nsIn K mainGlobals "list" = some none)
    (z9 : PySem.W.nsIn K mainGlobals "tuple" = some none)
    (z10 : PySem.W.nsIn K mainGlobals "str" = some none)
    (z11 : PySem.W.nsIn K mainGlobals "repr" = some none)
    (z12 : PySem.W.nsIn K mainGlobals "max" = some none)
    (z13 : PySem.W.nsIn K mainGlobals "isinstance" = some none)
    (z14 : PySem.W.nsIn K mainGlobals "range" = some none)
    (z15 : PySem.W.nsIn K mainGlobals "enumerate" = some none)
    (z16 : PySem.W.nsIn K mainGlobals "zip" = some none)
    : ∃ fd : FuncData, (∀ (s : Shared) (v : Value), BindsTo s fd ⟨[v], []⟩ [("_law_script", v)]) ∧ ∀ base : Heap, K.In base → base.Ns mainGlobals mg → FnG l.prog w K mg base lawLevel fa fd ["_law_script"] (spLaw K) := by
  have e := hfa.symm.trans (PySem.W.mg_of X G a17)
  cases e
  let T : Txt K mg := {
    a_is_number := f0, d_is_number := _, F_is_number := fun_mk (st := s_is_number) l0 c0 k0, m_is_number := PySem.W.mg_of X G a0,
    a_is_tuple_of := f1, d_is_tuple_of := _, F_is_tuple_of := fun_mk (st := s_is_tuple_of) l1 c1 k1, m_is_tuple_of := PySem.W.mg_of X G a1,
    a_is_day := f2, d_is_day := _, F_is_day := fun_mk (st := s_is_day) l2 c2 k2, m_is_day := PySem.W.mg_of X G a2,
    a_is_year := f3, d_is_year := _, F_is_year := fun_mk (st := s_is_year) l3 c3 k3, m_is_year := PySem.W.mg_of X G a3,
    a_is_ring := f4, d_is_ring := _, F_is_ring := fun_mk (st := s_is_ring) l4 c4 k4, m_is_ring := PySem.W.mg_of X G a4,
    a_is_hill := f5, d_is_hill := _, F_is_hill := fun_mk (st := s_is_hill) l5 c5 k5, m_is_hill := PySem.W.mg_of X G a5,
    a__law_box := f6, d__law_box := _, F__law_box := fun_mk (st := s__law_box) l6 c6 k6, m__law_box := PySem.W.mg_of X G a6,
    a__law_take := f7, d__law_take := _, F__law_take := fun_mk (st := s__law_take) l7 c7 k7, m__law_take := PySem.W.mg_of X G a7,
    a__law_folded := f8, d__law_folded := _, F__law_folded := fun_mk (st := s__law_folded) l8 c8 k8, m__law_folded := PySem.W.mg_of X G a8,
    a__law_same := f9, d__law_same := _, F__law_same := fun_mk (st := s__law_same) l9 c9 k9, m__law_same := PySem.W.mg_of X G a9,
    a__law_of := f10, d__law_of := _, F__law_of := fun_mk (st := s__law_of) l10 c10 k10, m__law_of := PySem.W.mg_of X G a10,
    a__law_nest := f11, d__law_nest := _, F__law_nest := fun_mk (st := s__law_nest) l11 c11 k11, m__law_nest := PySem.W.mg_of X G a11,
    a__law_is_count := f12, d__law_is_count := _, F__law_is_count := fun_mk (st := s__law_is_count) l12 c12 k12, m__law_is_count := PySem.W.mg_of X G a12,
    a__law_wanted := f13, d__law_wanted := _, F__law_wanted := fun_mk (st := s__law_wanted) l13 c13 k13, m__law_wanted := PySem.W.mg_of X G a13,
    a__law_odd := f14, d__law_odd := _, F__law_odd := fun_mk (st := s__law_odd) l14 c14 k14, m__law_odd := PySem.W.mg_of X G a14,
    a__law_bent := f15, d__law_bent := _, F__law_bent := fun_mk (st := s__law_bent) l15 c15 k15, m__law_bent := PySem.W.mg_of X G a15,
    a__law_right := f16, d__law_right := _, F__law_right := fun_mk (st := s__law_right) l16 c16 k16, m__law_right := PySem.W.mg_of X G a16,
    a_law := _, d_law := _, F_law := fun_mk (st := s_law) l17 c17 k17, m_law := PySem.W.mg_of X G a17,
    z_len := PySem.W.mg_none_of X G z0, z_abs := PySem.W.mg_none_of X G z1, z_divmod := PySem.W.mg_none_of X G z2, z_sum := PySem.W.mg_none_of X G z3, z_all := PySem.W.mg_none_of X G z4, z_any := PySem.W.mg_none_of X G z5, z_int := PySem.W.mg_none_of X G z6, z_bool := PySem.W.mg_none_of X G z7, z_list := PySem.W.mg_none_of X G z8, z_tuple := PySem.W.mg_none_of X G z9, z_str := PySem.W.mg_none_of X G z10, z_repr := PySem.W.mg_none_of X G z11, z_max := PySem.W.mg_none_of X G z12, z_isinstance := PySem.W.mg_none_of X G z13, z_range := PySem.W.mg_none_of X G z14, z_enumerate := PySem.W.mg_none_of X G z15, z_zip := PySem.W.mg_none_of X G z16 }
  exact ⟨PySem.W.fnOf "law" "law" (defArgs s_law) (defBody s_law) (defScope s_law) .none kV17 dc17 pm17 an17 cd17 ct17, fun s v => .of_eq rfl, fun base _ _ => ok_law T⟩

end Z01
open PySem PySem.W PyProof.Rows
set_option maxHeartbeats 0 in
theorem PySem.Challenge.cw_honeyturns_k01_hills_or_not_holds : PySem.Challenge.rw_honeyturns_k01_hills_or_not.Holds := by
  w_on; o_law; k_head; (case hw => w_witness2)
  k_fill
  refine Hz.walk_G (l := PySem.Challenge.rw_honeyturns_k01_hills_or_not) (n := 63) (k := Z01.lawLevel) (x := "_law_script") (sp := fun w => Z01.spLaw _) rfl (by decide) rfl ⟨rfl, by decide, by decide⟩ (fun w h Y => PySem.W.kIn_of Y) ?F (fun _ _ a ns hl _ hS => ⟨a, ns, rfl, hS, hl, fun _ => rfl⟩)
  case F =>
    intro w mg fa h KX G hmg
    refine' Z01.all_mk KX G hmg ?a0 ?l0 ?c0 ?k0 ?a1 ?l1 ?c1 ?k1 ?a2 ?l2 ?c2 ?k2 ?a3 ?l3 ?c3 ?k3 ?a4 ?l4 ?c4 ?k4 ?a5 ?l5 ?c5 ?k5 ?a6 ?l6 ?c6 ?k6 ?a7 ?l7 ?c7 ?k7 ?a8 ?l8 ?c8 ?k8 ?a9 ?l9 ?c9 ?k9 ?a10 ?l10 ?c10 ?k10 ?a11 ?l11 ?c11 ?k11 ?a12 ?l12 ?c12 ?k12 ?a13 ?l13 ?c13 ?k13 ?a14 ?l14 ?c14 ?k14 ?a15 ?l15 ?c15 ?k15 ?a16 ?l16 ?c16 ?k16 ?a17 ?l17 ?c17 ?k17 ?z0 ?z1 ?z2 ?z3 ?z4 ?z5 ?z6 ?z7 ?z8 ?z9 ?z10 ?z11 ?z12 ?z13 ?z14 ?z15 ?z16
    (case a0 => k_is); (case l0 => k_is); (case c0 => k_is); (case k0 => k_is); (case a1 => k_is); (case l1 => k_is); (case c1 => k_is); (case k1 => k_is); (case a2 => k_is); (case l2 => k_is); (case c2 => k_is); (case k2 => k_is); (case a3 => k_is); (case l3 => k_is); (case c3 => k_is); (case k3 => k_is); (case a4 => k_is); (case l4 => k_is); (case c4 => k_is); (case k4 => k_is); (case a5 => k_is); (case l5 => k_is); (case c5 => k_is); (case k5 => k_is); (case a6 => k_is); (case l6 => k_is); (case c6 => k_is); (case k6 => k_is); (case a7 => k_is); (case l7 => k_is); (case c7 => k_is); (case k7 => k_is); (case a8 => k_is); (case l8 => k_is); (case c8 => k_is); (case k8 => k_is); (case a9 => k_is); (case l9 => k_is); (case c9 => k_is); (case k9 => k_is); (case a10 => k_is); (case l10 => k_is); (case c10 => k_is); (case k10 => k_is); (case a11 => k_is); (case l11 => k_is); (case c11 => k_is); (case k11 => k_is); (case a12 => k_is); (case l12 => k_is); (case c12 => k_is); (case k12 => k_is); (case a13 => k_is); (case l13 => k_is); (case c13 => k_is); (case k13 => k_is); (case a14 => k_is); (case l14 => k_is); (case c14 => k_is); (case k14 => k_is); (case a15 => k_is); (case l15 => k_is); (case c15 => k_is); (case k15 => k_is); (case a16 => k_is); (case l16 => k_is); (case c16 => k_is); (case k16 => k_is); (case a17 => k_is); (case l17 => k_is); (case c17 => k_is); (case k17 => k_is); (case z0 => k_is); (case z1 => k_is); (case z2 => k_is); (case z3 => k_is); (case z4 => k_is); (case z5 => k_is); (case z6 => k_is); (case z7 => k_is); (case z8 => k_is); (case z9 => k_is); (case z10 => k_is); (case z11 => k_is); (case z12 => k_is); (case z13 => k_is); (case z14 => k_is); (case z15 => k_is); (case z16 => k_is)

