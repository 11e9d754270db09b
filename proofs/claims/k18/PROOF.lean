import PyProof.Rows.All
import Wide.All
import OpenK.AllK
import Wide.FinOn
import HandS.ForMost
import HandS.IsInst
import HandS.Property
import HandS.OwnEq
import HandS.SlotsOwn
import HandS.Style
import HandS.Wide
import HandS.WideBits
import HandS.Conv
import HandS.Evl
import HandS.EndBits
import HandS.Zip
import KE.KTupSum
import HandS.Walk
import HandS.Deep
import PySem.Challenge.RW_sureparts_k18_whole_rows_below_and_webs
set_option Elab.async false
set_option linter.all false
set_option maxRecDepth 100000
set_option maxHeartbeats 2000000
/-! Own rules beside the hand layer: what is walked may be a list or a tuple; sum of a tuple; slices with a step; an own == with either answer; calls by names alone. -/
namespace SB
open PySem PySem.Spec PyProof.Rows L2

/-- a list or a tuple of these values at a -/
def Sq (K : PySem.W.Frag) (H : Hp) (a : Addr) (xs : List V) : Prop := SqL K H a xs ∨ SqT K H a xs

section
variable {X : Cx} {tg : Expr}
/-- for x in NAME, a list or a tuple -/
def iSeq (K : PySem.W.Frag) (i : Nat) : TI := fun σ H R => ∃ a, σ[i]? = some (some (.ref a)) ∧ (((∃ xs, SqL K H a xs) ∧ R (Itl K a) H) ∨ ((∃ xs, SqT K H a xs) ∧ R (Itt K a) H))
theorem pi_seq {l : Expr} {i : Nat} (hl : PE X l (tVar i)) : PI X tg l (iSeq X.K i) := by
  refine ⟨fun pins s σ H R I h => ?_⟩
  obtain ⟨a, hs, h | h⟩ := h
  · exact (pi_list hl).run pins s σ H R I ⟨.ref a, hs, a, rfl, h.1, h.2⟩
  · exact (pi_tup hl).run pins s σ H R I ⟨.ref a, hs, a, rfl, h.1, h.2⟩

/-- sum of a list or a tuple of whole numbers -/
def rSumSq (K : PySem.W.Frag) : List V → Hp → VK → Prop := fun vs H Q => ∃ (a : Addr) (ns : List Int), vs = [V.ref a] ∧ Sq K H a (ns.map V.int) ∧ Q (.int ns.sum) H
theorem cr_sumSq (hc : X.calm = true) : CallR X (.builtin "sum") (rSumSq X.K) := by
  intro pins s σ H vs us Q I r h
  obtain ⟨a, ns, rfl, hs | hs, q⟩ := h
  · exact cr_sum hc pins s σ H _ us Q I r ⟨a, ns, rfl, hs, q⟩
  · obtain ⟨its, rv, ht, _⟩ := I.tuple hs
    rw [Vals.ref1 r]
    have hi := rv.ints
    obtain ⟨xs, e⟩ := hi.allInts.items
    have hn : numsOf (intItems xs).toList = ns := by rw [← e]; exact hi.numsOf
    rw [nums_intItems] at hn
    have ht' : s.heap.IsTuple a (intItems xs) := by rw [← e]; exact ht
    refine PySem.W.ktm_sumG (I.ok.hd hc) ht' fun h' tk t' hk => ?_
    rw [preSum_eq, List.take_of_length_le (by simp), hn]
    exact ⟨.int _, H, I.kept hk, ⟨_, rfl⟩, q⟩

/-- xs[::k], k above 0: a new list of some of its items -/
def wStep (K : PySem.W.Frag) (x : V) (Q : VK) : Option Int → Hp → Prop
  | some k, H2 => ∃ a xs, x = .ref a ∧ 0 < k ∧ SqL K H2 a xs ∧ ∀ ys p, (∀ v, v ∈ ys → v ∈ xs) → ys.length ≤ xs.length → H2 p = none → Q (.ref p) (upd H2 p (.lst ys))
  | none, _ => False
def tStepL (K : PySem.W.Frag) (te tk : TE) : TE := fun σ H Q => te σ H fun x H1 => tk σ H1 fun y H2 => ∃ k, y = .int k ∧ wStep K x Q (some k) H2
theorem vals_pick {xs : List V} {us : List Value} (r : Vals xs us) : ∀ (js : List Nat), ∃ ys, Vals ys (js.filterMap (us[·]?)) ∧ (∀ v, v ∈ ys → v ∈ xs) ∧ ys.length ≤ js.length := by
  intro js
  induction js with
  | nil => exact ⟨[], .nil, (fun v h => absurd h (by simp)), Nat.le_refl _⟩
  | cons j js ih =>
    obtain ⟨ys, rv, hm, hl⟩ := ih
    by_cases hj : j < xs.length
    · obtain ⟨u, hu, ru⟩ := r.get (show xs[j]? = some xs[j] by simp [hj])
      refine ⟨xs[j] :: ys, ?_, fun v h => ?_, by simp; omega⟩
      · rw [List.filterMap_cons_some hu]
        exact .cons ru rv
      · rcases List.mem_cons.mp h with e | h
        · rw [e]; exact List.getElem_mem hj
        · exact hm v h
    · have hu : us[j]? = none := by
        rw [List.getElem?_eq_none_iff]
        have := r.length
        omega
      refine ⟨ys, ?_, hm, by simp; omega⟩
      rw [List.filterMap_cons_none hu]
      exact rv
theorem step_len {n : Nat} {k : Int} (hk : 0 < k) : (sliceRange (sliceBounds none none (some k) n).1 (sliceBounds none none (some k) n).2.1 (sliceBounds none none (some k) n).2.2).length ≤ n := by
  have e : sliceBounds none none (some k) n = (0, (n : Int), k) := by
    unfold sliceBounds
    simp only [Option.getD_some]
    rw [if_pos hk, if_pos hk]
  rw [e]
  refine Nat.le_trans (sliceRange_len_le 0 n k (by omega)) ?_
  rw [if_pos hk]
  omega
theorem pe_stepL {e st : Expr} {te tk : TE} {p3 pos : Pos} (he : PE X e te) (hk : PE X st tk) (htail : ∀ a b, subscriptTail e (.Slice none none (some st) p3) (.ref a) (.ref b) = subscriptTail e (.Slice none none (some st) p3) (.ref a) (.ref b) := by intro _ _; rfl) : PE X (.Subscript e (.Slice none none (some st) p3) pos) (tStepL X.K te tk) := by
  refine ⟨fun pins s σ H Q I h => ?_⟩
  refine Subscript_ (thn (he.run pins s σ H _ I h) fun v s1 ⟨x, H1, I1, r1, q1⟩ => ?_)
  have hst : PO X (some st) (tPart tk) := po_some hk
  refine wpAny_Slice (thn (po_none.run pins s1 σ H1 (fun o H2 => o = none ∧ H2 = H1) I1 ⟨rfl, rfl⟩) fun vl s2 ⟨l, H2, I2, pl, el, e2⟩ => ?_)
  subst el e2
  refine thn (po_none.run pins s2 σ H2 (fun o H3 => o = none ∧ H3 = H2) I2 ⟨rfl, rfl⟩) fun vu s3 ⟨u, H3, I3, pu, eu, e3⟩ => ?_
  subst eu e3
  refine thn (hst.run pins s3 σ H3 (wStep X.K x Q) I3 q1) fun vs s4 ⟨o, H4, I4, ps, w⟩ => ?_
  cases o with
  | none => exact w.elim
  | some k =>
  obtain ⟨a, xs, ex, hk0, hx, q⟩ := w
  subst ex
  cases r1
  have I5 : Inv X pins σ H4 { s4 with heap := s4.heap.push { cls := .type "slice", data := .fields #[vl, vu, vs] } } := I4.kept (t' := s4.toks) fun b ob q => Heap.get?_push_of_some _ q
  obtain ⟨its, r, ht, hz⟩ := I5.list hx
  have hlen := r.length
  show wpAny (model X.prog X.w) X.A (subscriptTail e (.Slice none none (some st) p3) (.ref a) (.ref s4.heap.objs.size)) (EP X pins σ Q) X.xe { s4 with heap := s4.heap.push { cls := .type "slice", data := .fields #[vl, vu, vs] } }
  refine tail_any (ops := [.ref a, .ref s4.heap.objs.size]) ht.isList.typeIs (PySem.slot_list_getitem.lookup) ?_ (by with_unfolding_all rfl)
  refine wpAny_getItem_list_slice ht.isList (Heap.IsSliceOf.new _ vl vu vs) pl pu ps (fun z => by cases z; omega) ?_ (by rw [List.size_toArray]; omega)
  obtain ⟨ys, rv, hm, hl⟩ := vals_pick r (sliceRange (sliceBounds none none (some k) its.toArray.size).1 (sliceBounds none none (some k) its.toArray.size).2.1 (sliceBounds none none (some k) its.toArray.size).2.2)
  have hl2 : ys.length ≤ xs.length := by
    refine Nat.le_trans hl (Nat.le_trans (step_len hk0) ?_)
    rw [List.size_toArray]
    omega
  refine ⟨.ref _, _, I5.laid (t' := s4.toks) (o := .lst ys) (fun b ob q => Heap.get?_push_of_some _ q) (Nat.le_refl _) ?_, rfl, q ys _ hm hl2 (I5.hok.fresh (Nat.le_refl _))⟩
  have hpk : slicePick its.toArray none none (some k) = (List.filterMap (its[·]?) (sliceRange (sliceBounds none none (some k) its.toArray.size).1 (sliceBounds none none (some k) its.toArray.size).2.1 (sliceBounds none none (some k) its.toArray.size).2.2)).toArray := by
    unfold slicePick
    simp
  refine ⟨Nat.le_trans hl2 hz, _, 0, rv, ?_⟩
  rw [hpk]
  exact Heap.get?_push_size _ rfl
end

/-! ### own == with either answer -/
/-- the type of what stands on the right -/
inductive TyR (H : Hp) : V → Value → Prop where
  | non : TyR H .non (.type "NoneType")
  | bl (x : Bool) : TyR H (.bl x) (.type "bool")
  | int (i : Int) : TyR H (.int i) (.type "int")
  | str (x : Str) : TyR H (.str x) (.type "str")
  | lst {a : Addr} {xs : List V} (e : H a = some (.lst xs)) : TyR H (.ref a) (.type "list")
  | tup {a : Addr} {xs : List V} (e : H a = some (.tup xs)) : TyR H (.ref a) (.type "tuple")
  | ins {a C dx : Addr} {fs : List (Str × V)} (e : H a = some (.ins C dx fs)) : TyR H (.ref a) (.ref C)
section
variable {X : Cx} {pins : List (Addr × Obj)} {σ : L2.St} {H : Hp} {s : Shared}
theorem looks_of {M : Model} {y : V} {u t : Value} (I : Inv X pins σ H s) (ry : RelV y u) (ty : TyR H y t) : PySem.W.Looks M s.heap (typeOf u) t := by
  cases ty with
  | non => cases (show u = Value.none from ry); exact PySem.W.Looks.of_pure rfl
  | bl y => cases (show u = Value.bool y from ry); exact PySem.W.Looks.of_pure rfl
  | int i => obtain ⟨t, q⟩ := (show ∃ t, u = Value.int i t from ry); cases q; exact PySem.W.Looks.of_pure rfl
  | str y => obtain ⟨t, q⟩ := (show ∃ t, u = Value.str y t from ry); cases q; exact PySem.W.Looks.of_pure rfl
  | @lst a xs ea =>
    cases (show u = Value.ref a from ry)
    obtain ⟨_, _, n, _, h1⟩ := (show ObjOk X.prog X.w H s.heap a (.lst xs) from I.hok a _ ea)
    exact (PySem.W.Looks.ld h1).andThen .now
  | @tup a xs ea =>
    cases (show u = Value.ref a from ry)
    obtain ⟨_, _, _, o, h1, h2, _⟩ := (show ObjOk X.prog X.w H s.heap a (.tup xs) from I.hok a _ ea)
    exact h2 ▸ (PySem.W.Looks.ld h1).andThen .now
  | @ins a C dx fs ea =>
    cases (show u = Value.ref a from ry)
    obtain ⟨mA, O, _⟩ := ins_get I.hok ea
    obtain ⟨od, J, _⟩ := O.look
    exact J.type
def rEqOwn (K : PySem.W.Frag) (C : Addr) (sp : Sp) (E : XK) : R2 := fun x y H Q => ∃ a dx fs tb, x = .ref a ∧ H a = some (.ins C dx fs) ∧ TyR H y tb ∧ PySem.W.notFirst K C tb = true ∧ sp [x, y] H (fun v H' => ∃ b, v = .bl b ∧ Q (.bl b) H') E
theorem op_eqOwn {CX : CXT} {n : Nat} {C f : Addr} {fd : FuncData} {ps : List Str} {sp : Sp} {E : XK} (F : FnOk X.prog X.w X.K X.mg X.base CX n f fd ps sp) (hr : Room n X.A)
    (hs : PySem.W.findIn X.K (.ref C) "__eq__" = some (some (.ref f))) (hf : PySem.W.isFn X.K (.ref f) = true) (hb : Binds X.K fd ps []) (hx : Passes CX X E) : OpR X (compareOp .Eq) (rEqOwn X.K C sp E) := by
  intro pins s σ H x y v u Q I rx ry h
  obtain ⟨a, dx, fs, tb, rfl, ha, ty, hn, q⟩ := h
  cases (show v = Value.ref a from rx)
  obtain ⟨mA, J, _⟩ := ins_get I.hok ha
  obtain ⟨od, J, _⟩ := J.look
  obtain ⟨m, hF⟩ := I.fr
  show wpAny (model X.prog X.w) X.A (richCompare .Eq (.ref a) u) (EP X pins σ Q) X.xe s
  refine PySem.W.cmp_K (op := .Eq) (tb := tb) hr.units0 hF I.ok.mod.kin J (looks_of I ry ty) hn hs hf ?_
  have hl := F.len _ _ _ _ q
  have r2 : Vals [V.ref a, y] [Value.ref a, u] := .cons rfl (.cons ry .nil)
  refine wpAny_call (codeAny_mono (F.run X.A X.stack s H ⟨[.ref a, u], []⟩ [.ref a, u] [.ref a, y] _ E hr I.env0 (by
    have := hb s [.ref a, u] I.kIn (by simpa using hl)
    simpa using this) r2 q) fun r s' hq => ?_)
  cases r with
  | error e => exact hx pins σ H s e s' I hq
  | ok fl =>
    cases fl with
    | ret w =>
      obtain ⟨z, H', I', rz, b, ez, qz⟩ := I.after hq
      subst ez
      cases (show w = Value.bool b from rz)
      exact ⟨.bl b, H', I', rfl, qz⟩
    | next => exact False.elim hq
    | brk => exact False.elim hq
    | cont => exact False.elim hq
end

/-! ### f(k = v, ..), no value by position -/
section
variable {X : Cx} {CX : CXT} {k : Nat} {f : Addr} {fd : FuncData} {ps ks : List Str} {sp : Sp} {E : XK} {x : Str} {p pos : Pos} {kws : List Keyword} {tk : TA} {g : List Value → List Value → List Value} {gV : List V → List V → List V}
def tCallK0 (sp : Sp) (gV : List V → List V → List V) (E : XK) (tk : TA) : TE := fun σ H Q => tk σ H fun zs H2 => sp (gV [] zs) H2 Q E
theorem pe_callK0 (F : FnOk X.prog X.w X.K X.mg X.base CX k f fd ps sp) (hr : Room k X.A) (hg : Gl X x) (hm : X.mg x = some (.ref f)) (hk : PySem.W.keepIn X.K (.ref f) = true) (hb : KBinds X.K fd ps ks g gV) (hx : Passes CX X E)
    (hkw : PK X kws tk) (hall : (backToKw pos (keywordEach kws X.env)).all (·.1.isSome) = true := by rfl) (hks : (backToKw pos (keywordEach kws X.env)).filterMap (·.1) = ks := by rfl)
    (hdb : (x == ("__debug__" : Str)) = false := by decide)
    (hpl : ((backTo pos (starEach [] X.env)).any (·.1) || (backToKw pos (keywordEach kws X.env)).any (·.1.isNone)) = false := by rfl) :
    PE X (.Call (.Name x p) [] kws pos) (tCallK0 sp gV E tk) := by
  refine ⟨fun pins s σ H Q I h => ?_⟩
  refine wpAny_Call_Name_kw (ld_glob I hg hm ?_ hdb)
  refine PySem.W.callWith_KW0 (h₀ := X.base) I.ok.mod.kin hk hall (thn (hkw.run pos pins s σ H _ I h) fun ws s2 ⟨zs, H2, I2, rz, q2⟩ => ⟨I2.kIn, ?_⟩) hpl
  rw [hks]
  exact run_fnk F hr hb hx I2 .nil rz q2
end
end SB

set_option maxRecDepth 100000
set_option maxHeartbeats 2000000
/-! Data in the heap: pairs, lists of pairs, lists of numbers, lists of lists; what stands beside one list that is drawn from. -/
namespace SB
open PySem PySem.Spec PyProof.Rows L2
abbrev Ex := Evl.Ex
/-- what is new in H' -/
def nw (H H' : Hp) : Hp := fun b => if H b = none then H' b else none
theorem nw_at {H H' : Hp} {a : Addr} {o : HO} (h0 : H a = none) (h : H' a = some o) : nw H H' a = some o := by
  unfold nw; rw [if_pos h0]; exact h
theorem nw_of {H H' : Hp} {a : Addr} {o : HO} (h : nw H H' a = some o) : H a = none ∧ H' a = some o := by
  unfold nw at h
  by_cases c : H a = none
  · rw [if_pos c] at h; exact ⟨c, h⟩
  · rw [if_neg c] at h; cases h
theorem nw_ex {H H' : Hp} : Ex (nw H H') H' := fun a o h => (nw_of h).2
theorem nw_mono {H H1 H2 H3 : Hp} (e : Ex H H1) (e2 : Ex H2 H3) : Ex (nw H1 H2) (nw H H3) := fun a o h => nw_at (Evl.fresh_back e (nw_of h).1) (e2 a o (nw_of h).2)
/-- all but p -/
def dr (p : Addr) (H : Hp) : Hp := fun b => if b = p then none else H b
theorem dr_at {p : Addr} {H : Hp} {a : Addr} {o : HO} (h : a ≠ p) (e : H a = some o) : dr p H a = some o := by
  unfold dr; rw [if_neg h]; exact e
theorem dr_of {p : Addr} {H : Hp} {a : Addr} {o : HO} (e : dr p H a = some o) : a ≠ p ∧ H a = some o := by
  unfold dr at e
  by_cases c : a = p
  · rw [if_pos c] at e; cases e
  · rw [if_neg c] at e; exact ⟨c, e⟩
theorem dr_ex {p : Addr} {H : Hp} : Ex (dr p H) H := fun a o h => (dr_of h).2
theorem dr_mono {p : Addr} {H H' : Hp} (e : Ex H H') : Ex (dr p H) (dr p H') := fun a o h => dr_at (dr_of h).1 (e a o (dr_of h).2)
theorem nw_dr {p : Addr} {H H' : Hp} {o : HO} (hp : H p = some o) : Ex (nw H H') (dr p H') := fun a u h => dr_at (fun z => by rw [z] at h; rw [(nw_of h).1] at hp; cases hp) (nw_of h).2
theorem dr_upd {p : Addr} {H : Hp} {o : HO} : dr p (upd H p o) = dr p H := by
  funext b
  unfold dr
  by_cases c : b = p
  · rw [if_pos c, if_pos c]
  · rw [if_neg c, if_neg c, upd_ne c]
theorem dr_new {p q : Addr} {H : Hp} {o : HO} (hq : H q = none) : Ex (dr p H) (dr p (upd H q o)) := dr_mono (Evl.Ex.new hq)

/-! ### pairs of whole numbers, lists of them -/
def IsPr (H : Hp) (v : V) (p : Int × Int) : Prop := ∃ t, v = .ref t ∧ H t = some (.tup [.int p.1, .int p.2])
abbrev Ar (H : Hp) (xs : List V) (ar : List (Int × Int)) : Prop := Paired (IsPr H) xs ar
theorem p2_mono {α β : Type} {R S : α → β → Prop} (h : ∀ a b, R a b → S a b) : ∀ {xs : List α} {ys : List β}, Paired R xs ys → Paired S xs ys
  | _, _, .nil => .nil
  | _, _, .cons r q => .cons (h _ _ r) (p2_mono h q)
theorem IsPr.mono {H H' : Hp} (e : Ex H H') {v : V} {p : Int × Int} (h : IsPr H v p) : IsPr H' v p := by
  obtain ⟨t, ev, ht⟩ := h
  exact ⟨t, ev, e _ _ ht⟩
theorem Ar.mono {H H' : Hp} (e : Ex H H') {xs : List V} {ar : List (Int × Int)} (h : Ar H xs ar) : Ar H' xs ar := p2_mono (fun _ _ => IsPr.mono e) h
theorem p2_get {α β : Type} {R : α → β → Prop} : ∀ {xs : List α} {ys : List β}, Paired R xs ys → ∀ {i : Nat} {x : α}, xs[i]? = some x → ∃ y, ys[i]? = some y ∧ R x y
  | _, _, .nil, i, x, h => by simp at h
  | _, _, .cons (b := b) r q, 0, x, h => ⟨b, rfl, (Option.some.inj h) ▸ r⟩
  | _, _, .cons r q, i + 1, x, h => by
    obtain ⟨y, e, r'⟩ := p2_get q (i := i) (x := x) (by simpa using h)
    exact ⟨y, by simpa using e, r'⟩
theorem p2_snoc {α β : Type} {R : α → β → Prop} {x : α} {y : β} : ∀ {xs : List α} {ys : List β}, Paired R xs ys → R x y → Paired R (xs ++ [x]) (ys ++ [y])
  | _, _, .nil, h => .cons h .nil
  | _, _, .cons r q, h => .cons r (p2_snoc q h)
theorem p2_len {α β : Type} {R : α → β → Prop} : ∀ {xs : List α} {ys : List β}, Paired R xs ys → xs.length = ys.length
  | _, _, .nil => rfl
  | _, _, .cons r q => by simp [p2_len q]
theorem p2_mem {α β : Type} {R : α → β → Prop} {x : α} : ∀ {xs : List α} {ys : List β}, Paired R xs ys → x ∈ xs → ∃ y, y ∈ ys ∧ R x y
  | _, _, .nil, h => by cases h
  | _, _, .cons r q, h => by
    rcases List.mem_cons.mp h with e | h
    · subst e; exact ⟨_, List.mem_cons_self, r⟩
    · obtain ⟨y, hy, ry⟩ := p2_mem q h
      exact ⟨y, List.mem_cons_of_mem _ hy, ry⟩
theorem p2_rev {α β : Type} {R : α → β → Prop} : ∀ {xs : List α} {ys : List β}, Paired R xs ys → Paired R xs.reverse ys.reverse
  | _, _, .nil => .nil
  | _, _, .cons r q => by rw [List.reverse_cons, List.reverse_cons]; exact p2_snoc (p2_rev q) r
theorem p2_drop {α β : Type} {R : α → β → Prop} : ∀ (n : Nat) {xs : List α} {ys : List β}, Paired R xs ys → Paired R (xs.drop n) (ys.drop n)
  | 0, _, _, h => h
  | n + 1, _, _, .nil => .nil
  | n + 1, _, _, .cons r q => by simpa using p2_drop n q
/-- a list or a tuple of values at a -/
def Sq2 (H : Hp) (a : Addr) (xs : List V) : Prop := H a = some (.lst xs) ∨ H a = some (.tup xs)
theorem Sq2.mono {H H' : Hp} (e : Ex H H') {a : Addr} {xs : List V} (h : Sq2 H a xs) : Sq2 H' a xs := h.imp (e _ _) (e _ _)
theorem Sq2.inj {H : Hp} {a : Addr} {xs ys : List V} (h : Sq2 H a xs) (k : Sq2 H a ys) : xs = ys := by
  rcases h with h | h <;> rcases k with k | k <;> rw [h] at k <;> cases k <;> rfl
theorem sqL {K : PySem.W.Frag} {H : Hp} {a : Addr} {xs : List V} (h : H a = some (.lst xs)) : SqL K H a xs := .inl (.inl h)
theorem sqT {K : PySem.W.Frag} {H : Hp} {a : Addr} {xs : List V} (h : H a = some (.tup xs)) : SqT K H a xs := .inl (.inl h)
theorem Sq2.sq {K : PySem.W.Frag} {H : Hp} {a : Addr} {xs : List V} (h : Sq2 H a xs) : Sq K H a xs := h.imp sqL sqT
theorem Sq2.or {K : PySem.W.Frag} {H : Hp} {a : Addr} {xs : List V} (h : Sq2 H a xs) : SqL K H a xs ∨ SqT K H a xs := h.imp sqL sqT

/-! ### the walk of a list or a tuple that stands still, in a for, in a comprehension -/
section
variable {K : PySem.W.Frag} {a : Addr} {xs : List V}
theorem for_seq {i : Nat} {g : TG} {tb : TS} {D : Ends} {σ : L2.St} {H : Hp} (h : Sq2 H a xs) (hs0 : σ[i]? = some (some (.ref a))) (Pv : Nat → L2.St → Hp → Prop) (h0 : Pv 0 σ H) (hl : ∀ j σ H', j ≤ xs.length → Pv j σ H' → ∀ o, H a = some o → H' a = some o)
    (hs : ∀ j x σ H, xs[j]? = some x → Pv j σ H → g x σ H fun σ2 H2 => tb { D with nx := Pv (j + 1), ct := Pv (j + 1), bk := D.nx } σ2 H2) (hd : ∀ σ H, Pv xs.length σ H → D.nx σ H) : tFor (iSeq K i) g tb D σ H := by
  refine ⟨a, hs0, ?_⟩
  rcases h with h | h
  · exact .inl ⟨⟨xs, sqL h⟩, for_list (K := K) (a := a) (xs := xs) Pv h0 (fun j σ H' hj p => sqL (hl j σ H' hj p _ h)) hs hd⟩
  · exact .inr ⟨⟨xs, sqT h⟩, for_tup (K := K) (a := a) (xs := xs) Pv h0 (fun j σ H' hj p => sqT (hl j σ H' hj p _ h)) hs hd⟩

/-- what a comprehension keeps: i turns taken, the list at D holds acc, what is known beside D -/
def CW (P : Nat → List V → Hp → Prop) (H1 : Hp) (D : Addr) (i : Nat) (H : Hp) : Prop := ∃ acc, H D = some (.lst acc) ∧ acc.length ≤ i ∧ Ex H1 (dr D H) ∧ P i acc (dr D H)
theorem cw_put {P : Nat → List V → Hp → Prop} {H1 H H4 : Hp} {D : Addr} {i : Nat} {acc : List V} {y : V} (hD : H D = some (.lst acc)) (hl : acc.length ≤ i) (hi : i < 100000) (e1 : Ex H1 (dr D H)) (e : Ex H H4) (p : P (i + 1) (acc ++ [y]) (dr D H4)) :
    ∃ acc', H4 D = some (.lst acc') ∧ acc'.length < sizeLine ∧ CW P H1 D (i + 1) (upd H4 D (.lst (acc' ++ [y]))) := by
  refine ⟨acc, e _ _ hD, Evl.sz_lt (by omega), acc ++ [y], upd_same, by simp; omega, ?_, ?_⟩
  · rw [dr_upd]; exact e1.trans (dr_mono e)
  · rw [dr_upd]; exact p
theorem cw_skip {P : Nat → List V → Hp → Prop} {H1 H H4 : Hp} {D : Addr} {i : Nat} {acc : List V} (hD : H D = some (.lst acc)) (hl : acc.length ≤ i) (e1 : Ex H1 (dr D H)) (e : Ex H H4) (p : P (i + 1) acc (dr D H4)) : CW P H1 D (i + 1) H4 :=
  ⟨acc, e _ _ hD, by omega, e1.trans (dr_mono e), p⟩
theorem dr_none {D : Addr} {H : Hp} (h : H D = none) : dr D H = H := by
  funext b
  unfold dr
  by_cases c : b = D
  · rw [if_pos c, c, h]
  · rw [if_neg c]
theorem lcW {J : It} {n : Nat} {G : Hp → Prop} {Y : Nat → Hp → V → Hp → Prop} (w : Walk J n G Y) {g : TG} {tt : TT} {te : TE} {vs : List Nat} {σ : L2.St} {H1 : Hp} {D : Addr} {Qd : Hp → Prop} (hD : H1 D = none) (P : Nat → List V → Hp → Prop) (hG : ∀ H, Ex H1 H → G H) (h0 : P 0 [] H1)
    (hs : ∀ i x acc H H', i < n → H D = some (.lst acc) → acc.length ≤ i → Ex H1 (dr D H) → P i acc (dr D H) → Y i H x H' → g x (wipe σ vs) H' fun σ2 H2 => wipe σ2 vs = wipe σ vs ∧ tt σ2 H2 fun b H3 =>
      if b = true then te σ2 H3 fun y H4 => ∃ acc, H4 D = some (.lst acc) ∧ acc.length < sizeLine ∧ CW P H1 D (i + 1) (upd H4 D (.lst (acc ++ [y]))) else CW P H1 D (i + 1) H3)
    (hd : ∀ acc H, H D = some (.lst acc) → acc.length ≤ n → Ex H1 (dr D H) → P n acc (dr D H) → Qd H) :
    ∃ W : Nat → Nat → Hp → Prop, (∃ m, W 0 m (upd H1 D (.lst []))) ∧ ∀ i m H, W i m H →
      (J.stop i H ∧ Qd H) ∨ (J.go i H ∧ ∃ Nx : Hp → Prop, (∀ H', Nx H' → ∃ m', m' < m ∧ W (i + 1) m' H') ∧ ∀ x H', J.yld i H x H' → g x (wipe σ vs) H' fun σ2 H2 => wipe σ2 vs = wipe σ vs ∧ tt σ2 H2 fun b H3 =>
        if b = true then te σ2 H3 fun y H4 => ∃ acc, H4 D = some (.lst acc) ∧ acc.length < sizeLine ∧ Nx (upd H4 D (.lst (acc ++ [y]))) else Nx H3) := by
  refine lc_it w (Qd := Qd) (CW P H1 D) ⟨[], upd_same, Nat.le_refl _, ?_, ?_⟩ (fun i H _ p => ?_) (fun i x H H' hi p y => ?_) fun H p => ?_
  · rw [dr_upd, dr_none hD]; exact Evl.Ex.refl _
  · rw [dr_upd, dr_none hD]; exact h0
  · obtain ⟨acc, _, _, e, _⟩ := p
    exact hG H (e.trans dr_ex)
  · obtain ⟨acc, p1, p2, p3, p4⟩ := p
    exact hs i x acc H H' hi p1 p2 p3 p4 y
  · obtain ⟨acc, p1, p2, p3, p4⟩ := p
    exact hd acc H p1 p2 p3 p4
end
/-! ### reading words -/
section
variable {H : Hp} {Q : VK} {i j : Int} {b c : Bool}
theorem rI0_int {g : Int → Int → V} : rI0 g (.int i) (.int j) H Q = Q (g i j) H := by
  apply propext
  exact ⟨fun ⟨_, _, e1, e2, q⟩ => by cases e1; cases e2; exact q, fun q => ⟨_, _, rfl, rfl, q⟩⟩
theorem rI_int {C : Int → Int → Prop} {g : Int → Int → V} : rI C g (.int i) (.int j) H Q = (C i j ∧ Q (g i j) H) := by
  apply propext
  exact ⟨fun ⟨_, _, e1, e2, c, q⟩ => by cases e1; cases e2; exact ⟨c, q⟩, fun ⟨c, q⟩ => ⟨_, _, rfl, rfl, c, q⟩⟩
theorem rEq_int : rEq (.int i) (.int j) H Q = Q (.bl (decide (i = j))) H := by
  apply propext
  have e : (decide (V.int i = V.int j)) = decide (i = j) := by simp
  unfold rEq
  rw [e]
  exact ⟨fun q => q.2, fun q => ⟨rfl, q⟩⟩
theorem rNe_int : rNe (.int i) (.int j) H Q = Q (.bl (!decide (i = j))) H := by
  apply propext
  have e : (decide (V.int i = V.int j)) = decide (i = j) := by simp
  unfold rNe
  rw [e]
  exact ⟨fun q => q.2, fun q => ⟨rfl, q⟩⟩
theorem rEq_bl : rEq (.bl b) (.bl c) H Q = Q (.bl (decide (b = c))) H := by
  apply propext
  have e : (decide (V.bl b = V.bl c)) = decide (b = c) := by simp
  unfold rEq
  rw [e]
  exact ⟨fun q => q.2, fun q => ⟨rfl, q⟩⟩
theorem rNe_bl : rNe (.bl b) (.bl c) H Q = Q (.bl (!decide (b = c))) H := by
  apply propext
  have e : (decide (V.bl b = V.bl c)) = decide (b = c) := by simp
  unfold rNe
  rw [e]
  exact ⟨fun q => q.2, fun q => ⟨rfl, q⟩⟩
theorem isi_ty {K : PySem.W.Frag} {x : V} {T1 T2 : String} {b : Bool} (ty : TyX K H x (.type T1)) (h : kitB T1 T2 = some b) (q : Q (.bl b) H) : rIsi K [x, .ty T2] H Q := ⟨x, .ty T2, .type T1, .type T2, b, rfl, .ty _, ty, kit_ty h, q⟩
theorem ixL {K : PySem.W.Frag} {p : Addr} {xs : List V} {v : V} (h : SqL K H p xs) (a : atI xs i = some v) (q : Q v H) : rIxL K (.ref p) (.int i) H Q := ⟨p, xs, i, v, rfl, rfl, h, a, q⟩
theorem ixT {K : PySem.W.Frag} {p : Addr} {xs : List V} {v : V} (h : SqT K H p xs) (a : atI xs i = some v) (q : Q v H) : rIxT K (.ref p) (.int i) H Q := ⟨p, xs, i, v, rfl, rfl, h, a, q⟩
theorem allR {K : PySem.W.Frag} {p : Addr} {xs : List V} (bs : List Bool) (h : SqL K H p xs) (e : xs = bs.map V.bl) (q : Q (.bl (bs.all id)) H) : rAll K [.ref p] H Q := ⟨p, bs, rfl, e ▸ h, q⟩
theorem sumR {K : PySem.W.Frag} {p : Addr} {xs : List V} (ns : List Int) (h : SqL K H p xs) (e : xs = ns.map V.int) (q : Q (.int ns.sum) H) : rSum K [.ref p] H Q := ⟨p, ns, rfl, e ▸ h, q⟩
theorem sumSqR {K : PySem.W.Frag} {p : Addr} (ns : List Int) (h : Sq K H p (ns.map V.int)) (q : Q (.int ns.sum) H) : rSumSq K [.ref p] H Q := ⟨p, ns, rfl, h, q⟩
end
end SB

set_option maxRecDepth 100000
set_option maxHeartbeats 2000000
/-! Plain data that are compared: pairs, lists of them, lists of numbers, lists of lists. -/
namespace SB
open PySem PySem.Spec PyProof.Rows L2
def dI (i : Int) : PyData := .int i
def dPr (p : Int × Int) : PyData := .tuple [.int p.1, .int p.2]
def dPrs (ar : List (Int × Int)) : PyData := .list (ar.map dPr)
def dIs (ns : List Int) : PyData := .list (ns.map PyData.int)
def dRows (rs : List (List Int)) : PyData := .list (rs.map dIs)
theorem lay_map {α : Type} {f : α → PyData} (h : ∀ a, (f a).canLay0 = true) : ∀ xs : List α, PyData.canLayAll0 (xs.map f) = true
  | [] => by simp [PyData.canLayAll0]
  | a :: r => by simp [PyData.canLayAll0, h a, lay_map h r]
theorem depth_map {α : Type} {f : α → PyData} {n : Nat} (h : ∀ a, (f a).depth ≤ n) : ∀ xs : List α, PyData.depthAll (xs.map f) ≤ n
  | [] => by simp [PyData.depthAll]
  | a :: r => by
    have h1 := h a
    have h2 := depth_map h r
    simp only [List.map_cons, PyData.depthAll]
    omega
theorem dPr_lay (p : Int × Int) : (dPr p).canLay0 = true := by simp [dPr, PyData.canLay0, PyData.canLayAll0]
theorem dPr_depth (p : Int × Int) : (dPr p).depth ≤ 2 := by simp [dPr, PyData.depth, PyData.depthAll]
theorem dPrs_lay (ar : List (Int × Int)) : (dPrs ar).canLay0 = true := by simp only [dPrs, PyData.canLay0]; exact lay_map dPr_lay ar
theorem dPrs_depth (ar : List (Int × Int)) : (dPrs ar).depth ≤ 3 := by
  have h := depth_map dPr_depth ar
  simp only [dPrs, PyData.depth]; omega
theorem dIs_lay (ns : List Int) : (dIs ns).canLay0 = true := by simp only [dIs, PyData.canLay0]; exact lay_map (fun _ => by simp [PyData.canLay0]) ns
theorem dIs_depth (ns : List Int) : (dIs ns).depth ≤ 1 := by
  have h := depth_map (f := PyData.int) (n := 0) (fun _ => by simp [PyData.depth]) ns
  simp only [dIs, PyData.depth]; omega
theorem dRows_lay (rs : List (List Int)) : (dRows rs).canLay0 = true := by simp only [dRows, PyData.canLay0]; exact lay_map dIs_lay rs
theorem dRows_depth (rs : List (List Int)) : (dRows rs).depth ≤ 2 := by
  have h := depth_map dIs_depth rs
  simp only [dRows, PyData.depth]; omega
theorem shaped_of {d : PyData} (h : d.canLay0 = true) {n : Nat} (k : d.depth ≤ n) (hn : n ≤ 64 := by decide) : SeqAt.shaped d = true := by
  unfold SeqAt.shaped
  rw [h, Bool.true_and]
  exact decide_eq_true (Nat.le_trans k hn)
theorem dPrs_sh (ar : List (Int × Int)) : SeqAt.shaped (dPrs ar) = true := shaped_of (dPrs_lay ar) (dPrs_depth ar)
theorem dIs_sh (ns : List Int) : SeqAt.shaped (dIs ns) = true := shaped_of (dIs_lay ns) (dIs_depth ns)
theorem dRows_sh (rs : List (List Int)) : SeqAt.shaped (dRows rs) = true := shaped_of (dRows_lay rs) (dRows_depth rs)
/-- a web's places and arrows -/
def dPA (n : Int) (ar : List (Int × Int)) : PyData := .tuple [.int n, dPrs ar]
theorem dPA_sh (n : Int) (ar : List (Int × Int)) : SeqAt.shaped (dPA n ar) = true := by
  refine shaped_of (n := 4) ?_ ?_
  · simp [dPA, PyData.canLay0, PyData.canLayAll0, dPrs_lay]
  · have h := dPrs_depth ar
    simp only [dPA, PyData.depth, PyData.depthAll]; omega
theorem eqv_map {α : Type} [DecidableEq α] {f : α → PyData} (h : ∀ a b, PyData.eqv (f a) (f b) = decide (a = b)) : ∀ xs ys : List α, PyData.eqvAll (xs.map f) (ys.map f) = decide (xs = ys)
  | [], [] => by simp [PyData.eqvAll]
  | [], b :: r => by simp [PyData.eqvAll]
  | a :: r, [] => by simp [PyData.eqvAll]
  | a :: r, b :: s => by
    simp only [List.map_cons, PyData.eqvAll, h a b, eqv_map h r s]
    by_cases c : a = b <;> by_cases d : r = s <;> simp [c, d]
theorem dI_eqv (a b : Int) : PyData.eqv (.int a) (.int b) = decide (a = b) := by
  simp only [PyData.eqv]
  by_cases h : a = b <;> simp [h]
theorem dPr_eqv (a b : Int × Int) : PyData.eqv (dPr a) (dPr b) = decide (a = b) := by
  obtain ⟨a1, a2⟩ := a; obtain ⟨b1, b2⟩ := b
  simp only [dPr, PyData.eqv, PyData.eqvAll]
  by_cases h : a1 = b1 <;> by_cases k : a2 = b2 <;> simp [h, k]
theorem dPrs_eqv (a b : List (Int × Int)) : PyData.eqv (dPrs a) (dPrs b) = decide (a = b) := by
  simp only [dPrs, PyData.eqv]; exact eqv_map dPr_eqv a b
theorem dIs_eqv (a b : List Int) : PyData.eqv (dIs a) (dIs b) = decide (a = b) := by
  simp only [dIs, PyData.eqv]; exact eqv_map dI_eqv a b
theorem dRows_eqv (a b : List (List Int)) : PyData.eqv (dRows a) (dRows b) = decide (a = b) := by
  simp only [dRows, PyData.eqv]; exact eqv_map dIs_eqv a b
theorem dPA_eqv (n m : Int) (a b : List (Int × Int)) : PyData.eqv (dPA n a) (dPA m b) = decide (n = m ∧ a = b) := by
  simp only [dPA, PyData.eqv, PyData.eqvAll]
  rw [show (n == m) = decide (n = m) by by_cases h : n = m <;> simp [h], dPrs_eqv]
  by_cases h : n = m <;> by_cases k : a = b <;> simp [h, k]
section
variable {K : PySem.W.Frag} {H : Hp}
theorem dpAll_of {α : Type} {R : V → α → Prop} {f : α → PyData} (h : ∀ v a, R v a → Dp K H v (f a)) : ∀ {xs : List V} {ys : List α}, Paired R xs ys → DpAll K H xs (ys.map f)
  | _, _, .nil => .nil
  | _, _, .cons r q => .cons (h _ _ r) (dpAll_of h q)
theorem dp_pr {v : V} {p : Int × Int} (h : IsPr H v p) : Dp K H v (dPr p) := by
  obtain ⟨t, rfl, ht⟩ := h
  exact .tup (sqT ht) (.cons (.int _) (.cons (.int _) .nil))
theorem dp_prs {q : Addr} {xs : List V} {ar : List (Int × Int)} (h : H q = some (.lst xs)) (a : Ar H xs ar) : Dp K H (.ref q) (dPrs ar) := .lst (sqL h) (dpAll_of (f := dPr) (fun _ _ h => dp_pr h) a)
theorem dp_ints : ∀ ns : List Int, DpAll K H (ns.map V.int) (ns.map PyData.int)
  | [] => .nil
  | n :: r => .cons (.int n) (dp_ints r)
theorem dp_is {q : Addr} {ns : List Int} (h : H q = some (.lst (ns.map V.int))) : Dp K H (.ref q) (dIs ns) := .lst (sqL h) (dp_ints ns)
/-- == of data -/
theorem eqD {x y : V} {d e : PyData} {Q : VK} (hx : Dp K H x d) (hy : Dp K H y e) (sx : SeqAt.shaped d = true) (sy : SeqAt.shaped e = true) (q : Q (.bl (PyData.eqv d e)) H) : rEqD K x y H Q := ⟨d, e, hx, hy, sx, sy, q⟩
theorem neD {x y : V} {d e : PyData} {Q : VK} (hx : Dp K H x d) (hy : Dp K H y e) (sx : SeqAt.shaped d = true) (sy : SeqAt.shaped e = true) (q : Q (.bl (!PyData.eqv d e)) H) : rNeD K x y H Q := ⟨d, e, hx, hy, sx, sy, q⟩
end
theorem inV_int (t : Int) (ns : List Int) : inV (.int t) (ns.map V.int) = decide (t ∈ ns) := by
  unfold inV
  induction ns with
  | nil => simp
  | cons n r ih =>
    rw [List.map_cons, List.any_cons, ih]
    show ((n == t) || decide (t ∈ r)) = decide (t ∈ n :: r)
    by_cases h : n = t
    · subst h; simp
    · have h' : ¬ t = n := fun z => h z.symm
      simp [h, h']
theorem flat_ints (ns : List Int) : (ns.map V.int).all flatV = true := by
  induction ns with
  | nil => rfl
  | cons n r ih => rw [List.map_cons, List.all_cons, ih]; rfl
/-! ### rings -/
/-- of arrows that rise by r there is one whose tail no head reaches -/
theorem least_of {r : Int → Int} : ∀ (ar : List (Int × Int)), ar ≠ [] → ∃ p, p ∈ ar ∧ ∀ q ∈ ar, r p.1 ≤ r q.1
  | [], h => absurd rfl h
  | [p], _ => ⟨p, List.mem_cons_self, fun q hq => by rcases List.mem_cons.mp hq with e | e; (subst e; exact Int.le_refl _); cases e⟩
  | p :: q :: s, _ => by
    obtain ⟨m, hm, hl⟩ := least_of (r := r) (q :: s) (by simp)
    by_cases c : r p.1 ≤ r m.1
    · refine ⟨p, List.mem_cons_self, fun x hx => ?_⟩
      rcases List.mem_cons.mp hx with e | e
      · subst e; exact Int.le_refl _
      · exact Int.le_trans c (hl x e)
    · refine ⟨m, List.mem_cons_of_mem _ hm, fun x hx => ?_⟩
      rcases List.mem_cons.mp hx with e | e
      · subst e; omega
      · exact hl x e
theorem inner_less {r : Int → Int} {ar : List (Int × Int)} (h : ar ≠ []) (hr : ∀ p ∈ ar, r p.1 < r p.2) : (ar.filter fun p => decide (p.1 ∈ ar.map (·.2))).length < ar.length := by
  obtain ⟨p, hp, hl⟩ := least_of (r := r) ar h
  have hn : ¬ p.1 ∈ ar.map (·.2) := fun z => by
    obtain ⟨q, hq, e⟩ := List.mem_map.mp z
    have h1 := hr q hq
    have h2 := hl q hq
    rw [e] at h1
    omega
  have h1 := List.length_filter_le (fun p => decide (p.1 ∈ ar.map (·.2))) ar
  refine Nat.lt_of_le_of_ne h1 fun h2 => ?_
  have h3 := List.length_filter_eq_length_iff.mp h2 p hp
  exact absurd (of_decide_eq_true h3) hn

/-! ### comprehensions over a list or a tuple; what a class tells -/
section
variable {K : PySem.W.Frag} {H : Hp} {a : Addr} {xs : List V}
theorem lcSeq {i : Nat} {g : TG} {tt : TT} {te : TE} {vs : List Nat} {σ : L2.St} {Q : VK} (h : Sq2 H a xs) (hs0 : σ[i]? = some (some (.ref a))) (P : Nat → List V → Hp → Prop) (h0 : P 0 [] H)
    (hs : ∀ D i x acc H1, i < xs.length → xs[i]? = some x → H D = none → H1 D = some (.lst acc) → acc.length ≤ i → Ex H (dr D H1) → P i acc (dr D H1) → g x (wipe σ vs) H1 fun σ2 H2 => wipe σ2 vs = wipe σ vs ∧ tt σ2 H2 fun b H3 =>
      if b = true then te σ2 H3 fun y H4 => ∃ acc, H4 D = some (.lst acc) ∧ acc.length < sizeLine ∧ CW P H D (i + 1) (upd H4 D (.lst (acc ++ [y]))) else CW P H D (i + 1) H3)
    (hd : ∀ D acc H1, H D = none → H1 D = some (.lst acc) → acc.length ≤ xs.length → Ex H (dr D H1) → P xs.length acc (dr D H1) → Q (.ref D) H1) : tLc (iSeq K i) g tt te vs σ H Q := by
  refine ⟨a, hs0, ?_⟩
  rcases h with h | h
  · refine .inl ⟨⟨xs, sqL h⟩, fun D hD => lcW (walk_list (xs := xs)) hD P (fun H' e => sqL (e _ _ h)) h0 (fun i x acc H1 H2 hi hacc hl e1 hp y => ?_) fun acc H1 h1 h2 h3 h4 => hd D acc H1 hD h1 h2 h3 h4⟩
    obtain ⟨rfl, hx⟩ := y
    exact hs D i x acc _ hi hx hD hacc hl e1 hp
  · refine .inr ⟨⟨xs, sqT h⟩, fun D hD => lcW (walk_tup (xs := xs)) hD P (fun H' e => sqT (e _ _ h)) h0 (fun i x acc H1 H2 hi hacc hl e1 hp y => ?_) fun acc H1 h1 h2 h3 h4 => hd D acc H1 hD h1 h2 h3 h4⟩
    obtain ⟨rfl, hx⟩ := y
    exact hs D i x acc _ hi hx hD hacc hl e1 hp
/-- over a list that stands at a (behind what tells it) -/
theorem lcLst {g : TG} {tt : TT} {te : TE} {vs : List Nat} {σ : L2.St} {Q : VK} (h : H a = some (.lst xs)) (P : Nat → List V → Hp → Prop) (h0 : P 0 [] H)
    (hs : ∀ D i x acc H1, i < xs.length → xs[i]? = some x → H D = none → H1 D = some (.lst acc) → acc.length ≤ i → Ex H (dr D H1) → P i acc (dr D H1) → g x (wipe σ vs) H1 fun σ2 H2 => wipe σ2 vs = wipe σ vs ∧ tt σ2 H2 fun b H3 =>
      if b = true then te σ2 H3 fun y H4 => ∃ acc, H4 D = some (.lst acc) ∧ acc.length < sizeLine ∧ CW P H D (i + 1) (upd H4 D (.lst (acc ++ [y]))) else CW P H D (i + 1) H3)
    (hd : ∀ D acc H1, H D = none → H1 D = some (.lst acc) → acc.length ≤ xs.length → Ex H (dr D H1) → P xs.length acc (dr D H1) → Q (.ref D) H1) :
    ∃ a', V.ref a = V.ref a' ∧ (∃ ys, SqL K H a' ys) ∧ ∀ D, H D = none → ∃ W : Nat → Nat → Hp → Prop, (∃ m, W 0 m (upd H D (.lst []))) ∧ ∀ i m H, W i m H →
      ((Itl K a').stop i H ∧ Q (.ref D) H) ∨ ((Itl K a').go i H ∧ ∃ Nx : Hp → Prop, (∀ H', Nx H' → ∃ m', m' < m ∧ W (i + 1) m' H') ∧ ∀ x H', (Itl K a').yld i H x H' → g x (wipe σ vs) H' fun σ2 H2 => wipe σ2 vs = wipe σ vs ∧ tt σ2 H2 fun b H3 =>
        if b = true then te σ2 H3 fun y H4 => ∃ acc, H4 D = some (.lst acc) ∧ acc.length < sizeLine ∧ Nx (upd H4 D (.lst (acc ++ [y]))) else Nx H3) := by
  refine ⟨a, rfl, ⟨xs, sqL h⟩, fun D hD => lcW (Qd := fun H1 => Q (.ref D) H1) (walk_list (xs := xs)) hD P (fun H' e => sqL (e _ _ h)) h0 (fun i x acc H1 H2 hi hacc hl e1 hp y => ?_) fun acc H1 h1 h2 h3 h4 => hd D acc H1 hD h1 h2 h3 h4⟩
  obtain ⟨rfl, hx⟩ := y
  exact hs D i x acc _ hi hx hD hacc hl e1 hp
/-- over a name that holds a list -/
theorem lcVar {i : Nat} {g : TG} {tt : TT} {te : TE} {vs : List Nat} {σ : L2.St} {Q : VK} (h : H a = some (.lst xs)) (hs0 : σ[i]? = some (some (.ref a))) (P : Nat → List V → Hp → Prop) (h0 : P 0 [] H)
    (hs : ∀ D i x acc H1, i < xs.length → xs[i]? = some x → H D = none → H1 D = some (.lst acc) → acc.length ≤ i → Ex H (dr D H1) → P i acc (dr D H1) → g x (wipe σ vs) H1 fun σ2 H2 => wipe σ2 vs = wipe σ vs ∧ tt σ2 H2 fun b H3 =>
      if b = true then te σ2 H3 fun y H4 => ∃ acc, H4 D = some (.lst acc) ∧ acc.length < sizeLine ∧ CW P H D (i + 1) (upd H4 D (.lst (acc ++ [y]))) else CW P H D (i + 1) H3)
    (hd : ∀ D acc H1, H D = none → H1 D = some (.lst acc) → acc.length ≤ xs.length → Ex H (dr D H1) → P xs.length acc (dr D H1) → Q (.ref D) H1) : tLc (iList K (tVar i)) g tt te vs σ H Q :=
  ⟨.ref a, hs0, lcLst h P h0 hs hd⟩
/-- a, b = (i, j) -/
theorem gPr {i j : Nat} {v : V} {p : Int × Int} {σ : L2.St} {Q : L2.St → Hp → Prop} (h : IsPr H v p) (q : Q ((σ.set i (some (.int p.1))).set j (some (.int p.2))) H) : gTup K 2 (gCons (gName i) (gCons (gName j) gNil)) v σ H Q := by
  obtain ⟨t, rfl, ht⟩ := h
  exact ⟨t, _, rfl, sqT ht, rfl, _, _, rfl, _, _, rfl, rfl, q⟩
/-- the field of an instance that a name holds -/
theorem fldV {i : Nat} {f : Str} {σ : L2.St} {Q : VK} {p C dx : Addr} {fs : List (Str × V)} {v : V} (hs : σ[i]? = some (some (.ref p))) (h : H p = some (.ins C dx fs)) (c : Cls K C) (n : NoAttr K C f) (l : fs.lookup f = some v) (q : Q v H) : tFld K (tVar i) f σ H Q :=
  ⟨.ref p, hs, p, C, dx, fs, v, rfl, h, c, n, l, q⟩
theorem isi_own {C : Addr} {x : V} {t : Value} {b : Bool} {Q : VK} (ty : TyX K H x t) (h : PySem.W.kitOne K t (.ref C) = some b) (q : Q (.bl b) H) : rIsi K [x, .ref C] H Q := ⟨x, .ref C, t, .ref C, b, rfl, .own C, ty, h, q⟩
theorem isiT_ty {tp : Addr} {x : V} {T1 : String} {Ts : List String} {b : Bool} {Q : VK} (ht : H tp = some (.tup (Ts.map V.ty))) (ty : TyX K H x (.type T1)) (h : PySem.W.kitAny K (.type T1) (Ts.map Value.type) = some b) (q : Q (.bl b) H) : rIsiT K [x, .ref tp] H Q := by
  refine ⟨x, tp, _, _, _, b, rfl, ht, ?_, ty, h, q⟩
  clear h ht
  induction Ts with
  | nil => exact .nil
  | cons t r ih => exact .cons (.ty t) ih
theorem kit_self {C : Addr} : PySem.W.kitOne K (.ref C) (.ref C) = some true := by
  unfold PySem.W.kitOne
  rw [if_pos (by simp)]
theorem kit_no {C : Addr} {T : String} {l : List Value} (h1 : PySem.W.isClsIn K C = true) (h2 : PySem.W.typeIn K (.ref C) = some (.type "type")) (hm : PySem.fastBuiltinMro T = some l) (hl : l.contains (.ref C) = false) : PySem.W.kitOne K (.type T) (.ref C) = some false := by
  unfold PySem.W.kitOne
  rw [if_neg (by simp)]
  show (if ((PySem.W.clsIn K C).isSome && PySem.W.typeIn K (.ref C) == some (.type "type")) = true then PySem.W.subIn K (.type T) (.ref C) else none) = some false
  have h1' : (PySem.W.clsIn K C).isSome = true := h1
  rw [if_pos (by rw [h1', h2]; rfl)]
  show (PySem.fastBuiltinMro T).map (·.contains (.ref C)) = some false
  rw [hm]
  show some (l.contains (.ref C)) = some false
  rw [hl]
theorem mro_list {C : Addr} : ∃ l, PySem.fastBuiltinMro "list" = some l ∧ l.contains (Value.ref C) = false := ⟨_, (by rfl : PySem.fastBuiltinMro "list" = some [.type "list", .type "object"]), by simp⟩
theorem mro_tuple {C : Addr} : ∃ l, PySem.fastBuiltinMro "tuple" = some l ∧ l.contains (Value.ref C) = false := ⟨_, (by rfl : PySem.fastBuiltinMro "tuple" = some [.type "tuple", .type "object"]), by simp⟩
theorem mro_int {C : Addr} : ∃ l, PySem.fastBuiltinMro "int" = some l ∧ l.contains (Value.ref C) = false := ⟨_, (by rfl : PySem.fastBuiltinMro "int" = some [.type "int", .type "object"]), by simp⟩
theorem mro_none {C : Addr} : ∃ l, PySem.fastBuiltinMro "NoneType" = some l ∧ l.contains (Value.ref C) = false := ⟨_, (by rfl : PySem.fastBuiltinMro "NoneType" = some [.type "NoneType", .type "object"]), by simp⟩
theorem nf_of {C : Addr} {T : String} (h : ∃ l, PySem.fastBuiltinMro T = some l ∧ l.contains (Value.ref C) = false) : PySem.W.notFirst K C (.type T) = true := by
  obtain ⟨l, hm, hl⟩ := h
  unfold PySem.W.notFirst
  have e : PySem.W.subIn K (.type T) (.ref C) = some false := by
    show (PySem.fastBuiltinMro T).map (·.contains (.ref C)) = some false
    rw [hm]
    show some (l.contains (.ref C)) = some false
    rw [hl]
  rw [e]
  simp
theorem nf_self {C : Addr} : PySem.W.notFirst K C (.ref C) = true := by
  unfold PySem.W.notFirst
  simp
theorem ty_ins {p C dx : Addr} {fs : List (Str × V)} (h : H p = some (.ins C dx fs)) (c : Cls K C) (h1 : PySem.W.findIn K (.ref C) "__class__" = some (some (.builtin "object.__class__"))) (h4 : PySem.W.mroIn K C (.type "object") = some true) : TyX K H (.ref p) (.ref C) :=
  .base (.ins h c h1 (by rfl) (by rfl) h4)
end

/-! ### the readings, where all is given -/
section
variable {σ : L2.St} {H : Hp} {Q : VK} {QB : Bool → Hp → Prop} {QA : List V → Hp → Prop} {D : Ends} {ta tb te : TE} {t u : TT} {tu tw : TS} {tr : TA} {i j : Nat} {v : V} {g : TG} {QG : L2.St → Hp → Prop}
theorem rd_var : tVar i σ H Q = ∃ v, σ[i]? = some (some v) ∧ Q v H := rfl
theorem rd_c : tC v σ H Q = Q v H := rfl
theorem rd_seq : tSeq tu tw D σ H = tu { D with nx := tw D } σ H := rfl
theorem rd_next : tNext D σ H = D.nx σ H := rfl
theorem rd_ret : tRet te D σ H = te σ H D.rt := rfl
theorem rd_retN : tRetN D σ H = D.rt .non H := rfl
theorem rd_drop : tDrop te D σ H = te σ H fun _ H1 => D.nx σ H1 := rfl
theorem rd_asg : tAsg te g D σ H = te σ H fun x H1 => g x σ H1 D.nx := rfl
theorem rd_op {r : R2} : tOp r ta tb σ H Q = ta σ H fun x H1 => tb σ H1 fun y H2 => r x y H2 Q := rfl
theorem rd_un {r : V → Hp → VK → Prop} : tUn r ta σ H Q = ta σ H fun x H1 => r x H1 Q := rfl
theorem rd_call {sp : Sp} {dvs : List V} {E : XK} : tCall sp dvs E tr σ H Q = tr σ H fun vs H1 => sp (vs ++ dvs) H1 Q E := rfl
theorem rd_callK0 {sp : Sp} {gV : List V → List V → List V} {E : XK} : tCallK0 sp gV E tr σ H Q = tr σ H fun zs H2 => sp (gV [] zs) H2 Q E := rfl
theorem rd_cons : tCons ta tr σ H QA = ta σ H fun x H1 => tr σ H1 fun xs H2 => QA (x :: xs) H2 := rfl
theorem rd_nil : tNil σ H QA = QA [] H := rfl
theorem rd_cb {r : List V → Hp → VK → Prop} : tCB r tr σ H Q = tr σ H fun vs H1 => r vs H1 Q := rfl
theorem rd_test : tTest te σ H QB = te σ H fun x H' => ∃ k, x = .bl k ∧ QB k H' := rfl
theorem rd_b : tB te σ H QB = te σ H fun x H1 => ∃ c, x = .bl c ∧ QB c H1 := rfl
theorem rd_andV : tAndV ta tb σ H Q = ta σ H fun x H1 => ∃ c, x = .bl c ∧ if c = true then tb σ H1 Q else Q (.bl false) H1 := rfl
theorem rd_orV : tOrV ta tb σ H Q = ta σ H fun x H1 => ∃ c, x = .bl c ∧ if c = true then Q (.bl true) H1 else tb σ H1 Q := rfl
theorem rd_notV : tNotV ta σ H Q = ta σ H fun x H1 => ∃ c, x = .bl c ∧ Q (.bl (!c)) H1 := rfl
theorem rd_and : tAnd t u σ H QB = t σ H fun c H1 => if c = true then u σ H1 QB else QB false H1 := rfl
theorem rd_or : tOr t u σ H QB = t σ H fun c H1 => if c = true then QB true H1 else u σ H1 QB := rfl
theorem rd_not : tNot t σ H QB = t σ H fun c H1 => QB (!c) H1 := rfl
theorem rd_if : tIf t ta tb σ H Q = t σ H fun c H1 => if c = true then ta σ H1 Q else tb σ H1 Q := rfl
theorem rd_ifS : tIfS t tu tw D σ H = t σ H fun b H1 => if b = true then tu D σ H1 else tw D σ H1 := rfl
theorem rd_tup : tTup tr σ H Q = tr σ H fun xs H1 => xs.length ≤ sizeLine ∧ ∀ p, H1 p = none → Q (.ref p) (upd H1 p (.tup xs)) := rfl
theorem rd_lst : tLst tr σ H Q = tr σ H fun xs H1 => xs.length ≤ sizeLine ∧ ∀ p, H1 p = none → Q (.ref p) (upd H1 p (.lst xs)) := rfl
theorem rd_yes : tYes σ H QB = QB true H := rfl
theorem rd_par : tPar i j tr D σ H = tr σ H fun vs H1 => ∃ v w, vs = [v, w] ∧ D.nx ((σ.set i (some v)).set j (some w)) H1 := rfl
theorem rd_name : gName i v σ H QG = QG (σ.set i (some v)) H := rfl
theorem rd_prop {C : Addr} {sp : Sp} {dvs : List V} {E : XK} : tProp C sp dvs E ta σ H Q = ta σ H fun x H1 => ∃ a dx fs, x = .ref a ∧ H1 a = some (.ins C dx fs) ∧ sp (.ref a :: dvs) H1 Q E := rfl
theorem rd_sfld {K : PySem.W.Frag} {f : Str} : sFld K ta tb f D σ H = tb σ H fun y H1 => ta σ H1 fun x H2 => ∃ a C dx fs, x = .ref a ∧ H2 a = some (.ins C dx fs) ∧ Cls K C ∧ NoAttr K C f ∧ fs.length < 1000 ∧ D.nx σ (upd H2 a (.ins C dx (putF f y fs))) := rfl
theorem rd_step {K : PySem.W.Frag} : tStepL K ta tb σ H Q = ta σ H fun x H1 => tb σ H1 fun y H2 => ∃ k, y = .int k ∧ wStep K x Q (some k) H2 := rfl
theorem rd_wstep {K : PySem.W.Frag} {x : V} {k : Int} : wStep K x Q (some k) H = ∃ a xs, x = .ref a ∧ 0 < k ∧ SqL K H a xs ∧ ∀ ys p, (∀ v, v ∈ ys → v ∈ xs) → ys.length ≤ xs.length → H p = none → Q (.ref p) (upd H p (.lst ys)) := rfl
theorem rd_revL {K : PySem.W.Frag} : tRevL K ta σ H Q = ta σ H fun x H1 => ∃ a xs, x = .ref a ∧ SqL K H1 a xs ∧ ∀ p, H1 p = none → Q (.ref p) (upd H1 p (.lst xs.reverse)) := rfl
theorem rNotB_bl {a b : Bool} : rNotB (.bl a) (.bl b) H Q = Q (.bl (!decide (a = b))) H := by
  apply propext
  exact ⟨fun ⟨_, _, e1, e2, q⟩ => by cases e1; cases e2; exact q, fun q => ⟨_, _, rfl, rfl, q⟩⟩
theorem rd_bm {K : PySem.W.Frag} {T : String} {r : V → List V → Hp → VK → Prop} : tBM K T r ta tr σ H Q = ta σ H fun x H1 => tyV K T x H1 ∧ tr σ H1 fun xs H2 => r x xs H2 Q := rfl
end

/-! ### walks, in a comprehension and in a for -/
def LcJ (J : It) (g : TG) (tt : TT) (te : TE) (vs : List Nat) (σ : L2.St) (H1 : Hp) (Q : VK) : Prop := ∀ D, H1 D = none → ∃ W : Nat → Nat → Hp → Prop, (∃ m, W 0 m (upd H1 D (.lst []))) ∧ ∀ i m H, W i m H →
  (J.stop i H ∧ Q (.ref D) H) ∨ (J.go i H ∧ ∃ Nx : Hp → Prop, (∀ H', Nx H' → ∃ m', m' < m ∧ W (i + 1) m' H') ∧ ∀ x H', J.yld i H x H' → g x (wipe σ vs) H' fun σ2 H2 => wipe σ2 vs = wipe σ vs ∧ tt σ2 H2 fun b H3 =>
    if b = true then te σ2 H3 fun y H4 => ∃ acc, H4 D = some (.lst acc) ∧ acc.length < sizeLine ∧ Nx (upd H4 D (.lst (acc ++ [y]))) else Nx H3)
section
variable {K : PySem.W.Frag} {σ : L2.St} {H : Hp} {Q : VK} {g : TG} {tt : TT} {te tl : TE} {vs : List Nat} {ta : TA}
theorem rd_lcL : tLc (iList K tl) g tt te vs σ H Q = tl σ H fun x H1 => ∃ a, x = .ref a ∧ (∃ xs, SqL K H1 a xs) ∧ LcJ (Itl K a) g tt te vs σ H1 Q := rfl
theorem rd_lcZ : tLc (iZip K ta) g tt te vs σ H Q = ta σ H fun us H1 => ∃ a b xs ys, us = [.ref a, .ref b] ∧ SqL K H1 a xs ∧ SqL K H1 b ys ∧ LcJ (Itz K a b) g tt te vs σ H1 Q := rfl
theorem rd_lcR : tLc (iRng1 ta) g tt te vs σ H Q = ta σ H fun us H1 => ∃ j : Int, us = [.int j] ∧ -(2 ^ 62) ≤ j ∧ j < 2 ^ 62 ∧ LcJ (Itr 0 j.toNat) g tt te vs σ H1 Q := rfl
theorem lcJ {J : It} {n : Nat} {G : Hp → Prop} {Y : Nat → Hp → V → Hp → Prop} (w : Walk J n G Y) (hG : ∀ H', Ex H H' → G H') (P : Nat → List V → Hp → Prop) (h0 : P 0 [] H)
    (hs : ∀ D i x acc H1 H2, i < n → H D = none → H1 D = some (.lst acc) → acc.length ≤ i → Ex H (dr D H1) → P i acc (dr D H1) → Y i H1 x H2 → g x (wipe σ vs) H2 fun σ2 H3 => wipe σ2 vs = wipe σ vs ∧ tt σ2 H3 fun b H4 =>
      if b = true then te σ2 H4 fun y H5 => ∃ acc, H5 D = some (.lst acc) ∧ acc.length < sizeLine ∧ CW P H D (i + 1) (upd H5 D (.lst (acc ++ [y]))) else CW P H D (i + 1) H4)
    (hd : ∀ D acc H1, H D = none → H1 D = some (.lst acc) → acc.length ≤ n → Ex H (dr D H1) → P n acc (dr D H1) → Q (.ref D) H1) : LcJ J g tt te vs σ H Q :=
  fun D hD => lcW (Qd := fun H1 => Q (.ref D) H1) w hD P hG h0 (fun i x acc H1 H2 hi hacc hl e1 hp y => hs D i x acc H1 H2 hi hD hacc hl e1 hp y) fun acc H1 h1 h2 h3 h4 => hd D acc H1 hD h1 h2 h3 h4
/-- over a list -/
theorem lcA {a : Addr} {xs : List V} (h : H a = some (.lst xs)) (P : Nat → List V → Hp → Prop) (h0 : P 0 [] H)
    (hs : ∀ D i x acc H1, i < xs.length → xs[i]? = some x → H D = none → H1 D = some (.lst acc) → acc.length ≤ i → Ex H (dr D H1) → P i acc (dr D H1) → g x (wipe σ vs) H1 fun σ2 H2 => wipe σ2 vs = wipe σ vs ∧ tt σ2 H2 fun b H3 =>
      if b = true then te σ2 H3 fun y H4 => ∃ acc, H4 D = some (.lst acc) ∧ acc.length < sizeLine ∧ CW P H D (i + 1) (upd H4 D (.lst (acc ++ [y]))) else CW P H D (i + 1) H3)
    (hd : ∀ D acc H1, H D = none → H1 D = some (.lst acc) → acc.length ≤ xs.length → Ex H (dr D H1) → P xs.length acc (dr D H1) → Q (.ref D) H1) :
    (∃ ys, SqL K H a ys) ∧ LcJ (Itl K a) g tt te vs σ H Q :=
  ⟨⟨xs, sqL h⟩, lcJ (walk_list (xs := xs)) (fun H' e => sqL (e _ _ h)) P h0 (fun D i x acc H1 H2 hi hD hacc hl e1 hp y => by
    obtain ⟨rfl, hx⟩ := y
    exact hs D i x acc _ hi hx hD hacc hl e1 hp) hd⟩
/-- over two lists of one length -/
theorem lcZ {a b : Addr} {xs ys : List V} (h : H a = some (.lst xs)) (h2 : H b = some (.lst ys)) (hn : xs.length = ys.length) (P : Nat → List V → Hp → Prop) (h0 : P 0 [] H)
    (hs : ∀ D i x y acc H1 p, i < xs.length → xs[i]? = some x → ys[i]? = some y → H D = none → H1 D = some (.lst acc) → acc.length ≤ i → Ex H (dr D H1) → P i acc (dr D H1) → H1 p = none → g (.ref p) (wipe σ vs) (upd H1 p (.tup [x, y])) fun σ2 H2 => wipe σ2 vs = wipe σ vs ∧ tt σ2 H2 fun b H3 =>
      if b = true then te σ2 H3 fun y H4 => ∃ acc, H4 D = some (.lst acc) ∧ acc.length < sizeLine ∧ CW P H D (i + 1) (upd H4 D (.lst (acc ++ [y]))) else CW P H D (i + 1) H3)
    (hd : ∀ D acc H1, H D = none → H1 D = some (.lst acc) → acc.length ≤ xs.length → Ex H (dr D H1) → P xs.length acc (dr D H1) → Q (.ref D) H1) :
    ∃ a1 b1, (a = a1 ∧ b = b1) ∧ ∃ ws, SqL K H a1 ws ∧ ∃ zs, SqL K H b1 zs ∧ LcJ (Itz K a1 b1) g tt te vs σ H Q :=
  ⟨a, b, ⟨rfl, rfl⟩, xs, sqL h, ys, sqL h2, lcJ (walk_zip (n := xs.length) (xs := xs) (ys := ys) (by omega)) (fun H' e => ⟨sqL (e _ _ h), sqL (e _ _ h2)⟩) P h0 (fun D i x acc H1 H2 hi hD hacc hl e1 hp y => by
    obtain ⟨T, x', y', rfl, hT, rfl, f1, f2⟩ := y
    exact hs D i x' y' acc H1 T hi f1 f2 hD hacc hl e1 hp hT) hd⟩
/-- over a range -/
theorem lcR {n : Int} (hn : 0 ≤ n ∧ n ≤ 100000) (P : Nat → List V → Hp → Prop) (h0 : P 0 [] H)
    (hs : ∀ D (i : Nat) acc H1, (i : Int) < n → H D = none → H1 D = some (.lst acc) → acc.length ≤ i → Ex H (dr D H1) → P i acc (dr D H1) → g (.int (i : Int)) (wipe σ vs) H1 fun σ2 H2 => wipe σ2 vs = wipe σ vs ∧ tt σ2 H2 fun b H3 =>
      if b = true then te σ2 H3 fun y H4 => ∃ acc, H4 D = some (.lst acc) ∧ acc.length < sizeLine ∧ CW P H D (i + 1) (upd H4 D (.lst (acc ++ [y]))) else CW P H D (i + 1) H3)
    (hd : ∀ D acc H1, H D = none → H1 D = some (.lst acc) → acc.length ≤ n.toNat → Ex H (dr D H1) → P n.toNat acc (dr D H1) → Q (.ref D) H1) :
    -(2 ^ 62) ≤ n ∧ n < 2 ^ 62 ∧ LcJ (Itr 0 n.toNat) g tt te vs σ H Q :=
  ⟨by omega, by omega, lcJ walk_range (fun _ _ => trivial) P h0 (fun D i x acc H1 H2 hi hD hacc hl e1 hp y => by
    obtain ⟨rfl, rfl⟩ := y
    show g (.int ((0 : Int) + (i : Int))) (wipe σ vs) _ _
    rw [Int.zero_add]
    exact hs D i acc _ (by omega) hD hacc hl e1 hp) hd⟩
variable {tu tw tz : TS} {D : Ends}
def ForK (J : It) (g : TG) (tb : TS) (D : Ends) (σ : L2.St) (H1 : Hp) : Prop := ∃ W : Nat → Nat → L2.St → Hp → Prop, (∃ m, W 0 m σ H1) ∧ ∀ i m σ H, W i m σ H →
  (J.stop i H ∧ D.nx σ H) ∨ (J.go i H ∧ ∃ N : L2.St → Hp → Prop, (∀ σ' H', N σ' H' → ∃ m', m' < m ∧ W (i + 1) m' σ' H') ∧ ∀ x H', J.yld i H x H' → g x σ H' fun σ2 H2 => tb { D with nx := N, ct := N, bk := D.nx } σ2 H2)
theorem rd_forL : tFor (iList K tl) g tu D σ H = tl σ H fun x H1 => ∃ a, x = .ref a ∧ (∃ xs, SqL K H1 a xs) ∧ ForK (Itl K a) g tu D σ H1 := rfl
theorem rd_forZ : tFor (iZip K ta) g tu D σ H = ta σ H fun us H1 => ∃ a b xs ys, us = [.ref a, .ref b] ∧ SqL K H1 a xs ∧ SqL K H1 b ys ∧ ForK (Itz K a b) g tu D σ H1 := rfl
theorem rd_forR : tFor (iRng1 ta) g tu D σ H = ta σ H fun us H1 => ∃ j : Int, us = [.int j] ∧ -(2 ^ 62) ≤ j ∧ j < 2 ^ 62 ∧ ForK (Itr 0 j.toNat) g tu D σ H1 := rfl
/-- a for over a list: Pv by the turn -/
theorem forA {a : Addr} {xs : List V} (h : H a = some (.lst xs)) (Pv : Nat → L2.St → Hp → Prop) (h0 : Pv 0 σ H) (hG : ∀ i σ H', i ≤ xs.length → Pv i σ H' → H' a = some (.lst xs))
    (hs : ∀ i x σ H', i < xs.length → xs[i]? = some x → Pv i σ H' → g x σ H' fun σ2 H2 => tu { D with nx := Pv (i + 1), ct := Pv (i + 1), bk := D.nx } σ2 H2) (hd : ∀ σ H', Pv xs.length σ H' → D.nx σ H') :
    (∃ ys, SqL K H a ys) ∧ ForK (Itl K a) g tu D σ H :=
  ⟨⟨xs, sqL h⟩, for_it (walk_list (xs := xs)) Pv h0 (fun i σ H' hi p => sqL (hG i σ H' hi p)) (fun i x σ H1 H2 hi p y => by
    obtain ⟨rfl, hx⟩ := y
    exact hs i x σ _ hi hx p) hd⟩
theorem forR {n : Int} (hn : 0 ≤ n ∧ n ≤ 100000) (Pv : Nat → L2.St → Hp → Prop) (h0 : Pv 0 σ H)
    (hs : ∀ (i : Nat) σ H', (i : Int) < n → Pv i σ H' → g (.int (i : Int)) σ H' fun σ2 H2 => tu { D with nx := Pv (i + 1), ct := Pv (i + 1), bk := D.nx } σ2 H2) (hd : ∀ σ H', Pv n.toNat σ H' → D.nx σ H') :
    -(2 ^ 62) ≤ n ∧ n < 2 ^ 62 ∧ ForK (Itr 0 n.toNat) g tu D σ H :=
  ⟨by omega, by omega, for_it walk_range Pv h0 (fun _ _ _ _ _ => trivial) (fun i x σ H1 H2 hi p y => by
    obtain ⟨rfl, rfl⟩ := y
    show g (.int ((0 : Int) + (i : Int))) σ _ _
    rw [Int.zero_add]
    exact hs i σ _ (by omega) p) hd⟩
theorem rd_make {C : Addr} {sp : Sp} {dvs : List V} {E : XK} : tMake C sp dvs E ta σ H Q = ta σ H fun vs H1 => ∀ x dx, H1 x = none → H1 dx = none → dx ≠ x → sp (.ref x :: (vs ++ dvs)) (upd (upd H1 dx (.own x)) x (.ins C dx [])) (fun v H2 => v = .non ∧ Q (.ref x) H2) E := rfl
theorem rd_meth {C : Addr} {m : Str} {sp : Sp} {dvs : List V} {E : XK} : tMeth C m sp dvs E tl ta σ H Q = tl σ H fun x H1 => ∃ a dx fs, x = .ref a ∧ H1 a = some (.ins C dx fs) ∧ fs.lookup m = none ∧ ta σ H1 fun vs H2 => sp (x :: (vs ++ dvs)) H2 Q E := rfl
end

/-- isinstance(x, (list, tuple)) of a list or a tuple -/
theorem isiLT {K : PySem.W.Frag} {H : Hp} {a : Addr} {xs : List V} {Q : VK} (sq : Sq2 H a xs) (q : ∀ H', Ex H H' → Q (.bl true) H') :
    2 ≤ sizeLine ∧ ∀ tp, H tp = none → rIsiT K [.ref a, .ref tp] (upd H tp (.tup [.ty "list", .ty "tuple"])) Q := by
  refine ⟨Evl.sz_of (by decide), fun tp htp => ?_⟩
  have e0 : Ex H (upd H tp (.tup [.ty "list", .ty "tuple"])) := Evl.Ex.new htp
  have hty : ∃ T1, TyX K (upd H tp (.tup [.ty "list", .ty "tuple"])) (.ref a) (.type T1) ∧ PySem.W.kitAny K (.type T1) (["list", "tuple"].map Value.type) = some true := by
    rcases sq.mono e0 with h | h
    · exact ⟨"list", .base (.lst h), kitAny_cons (b := true) (kit_ty (by decide +kernel)) (fun z => by cases z) (fun _ => rfl)⟩
    · exact ⟨"tuple", .base (.tup h), kitAny_cons (b := false) (kit_ty (by decide +kernel)) (fun _ => kitAny_cons (b := true) (kit_ty (by decide +kernel)) (fun z => by cases z) (fun _ => rfl)) (fun z => by cases z)⟩
  obtain ⟨T1, hty1, hty2⟩ := hty
  exact isiT_ty (Ts := ["list", "tuple"]) upd_same hty1 hty2 (q _ e0)
/-- a new instance's heap -/
theorem made_ex {H : Hp} {C x dx : Addr} (hx : H x = none) (hdx : H dx = none) : Ex H (upd (upd H dx (.own x)) x (.ins C dx [])) := fun b o h => by
  rw [upd_ne (ne_of_none h hx), upd_ne (ne_of_none h hdx)]; exact h
/-- behind __init__ -/
theorem init_ex {H H1 H' : Hp} {C x dx : Addr} (e1 : Ex H H1) (hx : H1 x = none) (hdx : H1 dx = none) (e : ∀ b o, (upd (upd H1 dx (.own x)) x (.ins C dx [])) b = some o → b ≠ x → H' b = some o) : Ex H H' := fun b o h =>
  e b o (made_ex hx hdx b o (e1 b o h)) (ne_of_none (e1 b o h) hx)

theorem map_get {ns : List Int} {i : Nat} {x : V} (h : (ns.map V.int)[i]? = some x) : ∃ z, ns[i]? = some z ∧ x = V.int z := by
  rw [List.getElem?_map] at h
  cases e : ns[i]? with
  | none => rw [e] at h; cases h
  | some z => rw [e] at h; exact ⟨z, rfl, (Option.some.inj h).symm⟩
theorem zip_get {α β : Type} : ∀ {xs : List α} {ys : List β} {i : Nat} {x : α} {y : β}, xs[i]? = some x → ys[i]? = some y → (xs.zip ys)[i]? = some (x, y)
  | [], _, i, _, _, h, _ => by simp at h
  | _ :: _, [], i, _, _, _, h => by simp at h
  | a :: r, b :: s, 0, x, y, h, k => by
    have e1 : a = x := Option.some.inj h
    have e2 : b = y := Option.some.inj k
    subst e1 e2; rfl
  | a :: r, b :: s, i + 1, x, y, h, k => by
    simpa using zip_get (xs := r) (ys := s) (i := i) (by simpa using h) (by simpa using k)
theorem at_ints {ns : List Int} {i : Int} (h0 : 0 ≤ i) (h : i < ns.length) : atI (ns.map V.int) i = some (V.int (ns.getD i.toNat 0)) := by
  have hj : i.toNat < ns.length := by omega
  refine at_of (j := i.toNat) (by omega) ?_
  rw [List.getElem?_map, List.getElem?_eq_getElem hj]
  simp [List.getD, hj]
theorem getD_ok {ns : List Int} {a b : Int} (h : ∀ z ∈ ns, a ≤ z ∧ z ≤ b) {i : Int} (h0 : 0 ≤ i) (hi : i < (ns.length : Int)) : a ≤ ns.getD i.toNat 0 ∧ ns.getD i.toNat 0 ≤ b := by
  have hj : i.toNat < ns.length := by omega
  have e : ns.getD i.toNat 0 = ns[i.toNat] := by simp [List.getD, hj]
  rw [e]
  exact h _ (List.getElem_mem hj)
/-! ### a comprehension of two: a list, a range -/
def Lc2J (J : It) (g : TG) (tt : TT) (wi1 : TI) (g1 : TG) (tt1 : TT) (te : TE) (vs vs1 : List Nat) (σ : L2.St) (H1 : Hp) (Q : VK) : Prop := ∀ D, H1 D = none → ∃ W : Nat → Nat → Hp → Prop, (∃ m, W 0 m (upd H1 D (.lst []))) ∧ ∀ i m H, W i m H →
  (J.stop i H ∧ Q (.ref D) H) ∨ (J.go i H ∧ ∃ Nx : Hp → Prop, (∀ H', Nx H' → ∃ m', m' < m ∧ W (i + 1) m' H') ∧ ∀ x H', J.yld i H x H' → g x (wipe σ vs) H' fun σ2 H2 => wipe σ2 vs = wipe σ vs ∧ tt σ2 H2 fun b H3 =>
    if b = true then wi1 σ2 H3 fun J1 H4 => ∃ W1 : Nat → Nat → Hp → Prop, (∃ m, W1 0 m H4) ∧ ∀ j k H, W1 j k H →
      (J1.stop j H ∧ Nx H) ∨ (J1.go j H ∧ ∃ Nx1 : Hp → Prop, (∀ H', Nx1 H' → ∃ k', k' < k ∧ W1 (j + 1) k' H') ∧ ∀ x H', J1.yld j H x H' → g1 x (wipe σ2 vs1) H' fun σ3 H5 => wipe σ3 vs1 = wipe σ2 vs1 ∧ tt1 σ3 H5 fun b H6 =>
        if b = true then te σ3 H6 fun y H7 => ∃ acc, H7 D = some (.lst acc) ∧ acc.length < sizeLine ∧ Nx1 (upd H7 D (.lst (acc ++ [y]))) else Nx1 H6)
    else Nx H3)
def CW2 (P : Nat → Nat → List V → Hp → Prop) (H1 : Hp) (D : Addr) (i j : Nat) (H : Hp) : Prop := ∃ acc, H D = some (.lst acc) ∧ Ex H1 (dr D H) ∧ P i j acc (dr D H)
theorem cw2_put {P : Nat → Nat → List V → Hp → Prop} {H1 H H4 : Hp} {D : Addr} {i j : Nat} {acc : List V} {y : V} (hD : H D = some (.lst acc)) (hl : acc.length < 100000) (e1 : Ex H1 (dr D H)) (e : Ex H H4) (p : P i (j + 1) (acc ++ [y]) (dr D H4)) :
    ∃ acc', H4 D = some (.lst acc') ∧ acc'.length < sizeLine ∧ CW2 P H1 D i (j + 1) (upd H4 D (.lst (acc' ++ [y]))) := by
  refine ⟨acc, e _ _ hD, Evl.sz_lt hl, acc ++ [y], upd_same, ?_, ?_⟩
  · rw [dr_upd]; exact e1.trans (dr_mono e)
  · rw [dr_upd]; exact p
section
variable {K : PySem.W.Frag} {σ : L2.St} {H : Hp} {Q : VK} {te tl : TE} {vs vs1 : List Nat} {ta1 : TA} {i5 i6 : Nat}
theorem rd_lc2 {g g1 : TG} {tt tt1 : TT} {wi1 : TI} : tLc2 (iList K tl) g tt wi1 g1 tt1 te vs vs1 σ H Q = tl σ H fun x H1 => ∃ a, x = .ref a ∧ (∃ xs, SqL K H1 a xs) ∧ Lc2J (Itl K a) g tt wi1 g1 tt1 te vs vs1 σ H1 Q := rfl
theorem lc2LR {a : Addr} {xs : List V} {n : Nat} (h : H a = some (.lst xs)) (hr : ∀ x H' (R : It → Hp → Prop), R (Itr 0 n) H' → iRng1 ta1 ((wipe σ vs).set i5 (some x)) H' R) (hw : ∀ x, wipe ((wipe σ vs).set i5 (some x)) vs = wipe σ vs)
    (hw1 : ∀ x y, wipe ((wipe ((wipe σ vs).set i5 (some x)) vs1).set i6 (some y)) vs1 = wipe ((wipe σ vs).set i5 (some x)) vs1) (P : Nat → Nat → List V → Hp → Prop) (h0 : P 0 0 [] H) (hnext : ∀ i acc B, i < xs.length → P i n acc B → P (i + 1) 0 acc B)
    (hs : ∀ D i x j acc H1, i < xs.length → xs[i]? = some x → j < n → H D = none → H1 D = some (.lst acc) → Ex H (dr D H1) → P i j acc (dr D H1) →
      te ((wipe ((wipe σ vs).set i5 (some x)) vs1).set i6 (some (.int (j : Int)))) H1 fun y H7 => ∃ acc, H7 D = some (.lst acc) ∧ acc.length < sizeLine ∧ CW2 P H D i (j + 1) (upd H7 D (.lst (acc ++ [y]))))
    (hd : ∀ D acc H1, H D = none → H1 D = some (.lst acc) → Ex H (dr D H1) → P xs.length 0 acc (dr D H1) → Q (.ref D) H1) :
    (∃ ys, SqL K H a ys) ∧ Lc2J (Itl K a) (gName i5) tYes (iRng1 ta1) (gName i6) tYes te vs vs1 σ H Q := by
  refine ⟨⟨xs, sqL h⟩, fun D hD => ⟨fun i m H' => m = xs.length - i ∧ i ≤ xs.length ∧ CW2 P H D i 0 H', ⟨_, rfl, Nat.zero_le _, [], upd_same, by rw [dr_upd, dr_none hD]; exact Evl.Ex.refl _, by rw [dr_upd, dr_none hD]; exact h0⟩, ?_⟩⟩
  rintro i m H1 ⟨rfl, hi, acc, hacc, e1, hp⟩
  have ha1 : H1 a = some (.lst xs) := dr_ex _ _ (e1 _ _ h)
  by_cases hlt : i < xs.length
  · refine .inr ⟨⟨xs, xs[i], sqL ha1, by simp [hlt]⟩, CW2 P H D (i + 1) 0, fun H' p' => ⟨xs.length - (i + 1), by omega, rfl, hlt, p'⟩, fun x H' y => ?_⟩
    obtain ⟨rfl, y⟩ := y
    have hx := y xs (sqL ha1)
    refine ⟨hw x, ?_⟩
    rw [rd_yes, if_pos rfl]
    refine hr x _ _ ?_
    refine ⟨fun j k H' => k = n - j ∧ j ≤ n ∧ CW2 P H D i j H', ⟨_, rfl, Nat.zero_le _, acc, hacc, e1, hp⟩, ?_⟩
    rintro j k H2 ⟨rfl, hj, acc2, hacc2, e2, hp2⟩
    by_cases hjn : j < n
    · refine .inr ⟨hjn, CW2 P H D i (j + 1), fun H' p' => ⟨n - (j + 1), by omega, rfl, hjn, p'⟩, fun x' H' y' => ?_⟩
      obtain ⟨rfl, rfl⟩ := y'
      refine ⟨hw1 x _, ?_⟩
      have := hs D i x j acc2 _ hlt hx hjn hD hacc2 e2 hp2
      rw [rd_yes, if_pos rfl]
      show te ((wipe ((wipe σ vs).set i5 (some x)) vs1).set i6 (some (.int ((0 : Int) + (j : Int))))) _ _
      rw [Int.zero_add]
      exact this
    · have e : j = n := by omega
      subst e
      exact .inl ⟨Nat.le_refl _, acc2, hacc2, e2, hnext i acc2 _ hlt hp2⟩
  · have e : i = xs.length := by omega
    subst e
    exact .inl ⟨⟨xs, sqL ha1, Nat.le_refl _⟩, hd D acc H1 hD hacc e1 hp⟩
end

theorem perm_erase {α : Type} : ∀ {l : List α} {k : Nat} {y : α}, l[k]? = some y → l.Perm (y :: l.eraseIdx k)
  | [], k, y, h => by simp at h
  | a :: r, 0, y, h => by
    have e : a = y := Option.some.inj h
    subst e
    exact List.Perm.refl _
  | a :: r, k + 1, y, h => by
    have ih := perm_erase (l := r) (k := k) (y := y) (by simpa using h)
    exact (List.Perm.cons a ih).trans (List.Perm.swap y a _)
theorem seqIx {d : Int} {n : Nat} (h0 : 0 ≤ d) (h : d < n) : seqIndex? d n = some d.toNat := by
  have : ixN n d = some d.toNat := by
    unfold ixN
    rw [if_pos h0, if_pos h]
  exact (ixN_seq this).1
/-- divmod by a small number -/
theorem divp_small {i j : Int} (h : 0 < j) (hj : j ≤ 100000) : CDivP i j := by
  refine ⟨h, ?_⟩
  show (decide ((if j == 0 then 0 else j.natAbs.log2 / 30 + 1) > 300) && _) = false
  have k : ¬ ((if j == 0 then 0 else j.natAbs.log2 / 30 + 1) > 300) := by
    have h1 : j.natAbs.log2 ≤ 100000 := Nat.le_trans (Nat.log2_le_self _) (by omega)
    have h2 : j.natAbs.log2 < 17 := (Nat.log2_lt (by omega)).mpr (by omega)
    split <;> omega
  rw [decide_eq_false k, Bool.false_and]
theorem nw_dr_mono {p : Addr} {H H2 H3 : Hp} {o : HO} (hp : H p = some o) (e : Ex (dr p H2) (dr p H3)) : Ex (nw H H2) (nw H H3) := fun a u h => by
  obtain ⟨h1, h2⟩ := nw_of h
  exact nw_at h1 (dr_ex _ _ (e _ _ (dr_at (fun z => by rw [z, hp] at h1; cases h1) h2)))
/-- a place other than p, behind a draw -/
theorem dr_keep {p a : Addr} {H H' : Hp} {o : HO} (e : Ex (dr p H) (dr p H')) (ha : a ≠ p) (h : H a = some o) : H' a = some o := dr_ex _ _ (e _ _ (dr_at ha h))
theorem ints_at {ns : List Int} {i : Nat} {z : Int} (h : ns[i]? = some z) : (ns.map V.int)[i]? = some (V.int z) := by rw [List.getElem?_map, h]; rfl

theorem erase_map {α β : Type} (f : α → β) : ∀ (l : List α) (k : Nat), (l.map f).eraseIdx k = (l.eraseIdx k).map f
  | [], k => by simp
  | a :: r, 0 => by simp
  | a :: r, k + 1 => by simp [erase_map f r k]
theorem perm_move {α : Type} {ls fs rs : List α} {k : Nat} {y : α} (h : ls[k]? = some y) (hp : (ls ++ fs).Perm rs) : (ls.eraseIdx k ++ (fs ++ [y])).Perm rs := by
  refine List.Perm.trans ?_ hp
  rw [← List.append_assoc]
  refine (List.perm_append_comm).trans ?_
  show (y :: (ls.eraseIdx k ++ fs)).Perm (ls ++ fs)
  exact ((perm_erase h).symm).append_right fs

theorem cut1 (xs : List V) : cutV xs (some 1) none = xs.drop 1 := by
  cases xs with
  | nil => simp [cutV]
  | cons a r =>
    unfold cutV
    have e : HT.sIx (a :: r).length 0 (some 1) = 1 := by
      unfold HT.sIx
      simp
    have e2 : HT.sIx (a :: r).length (a :: r).length none = (a :: r).length := by unfold HT.sIx; rfl
    rw [e, e2]
    simp
theorem p2_app {α β : Type} {R : α → β → Prop} : ∀ {xs : List α} {ys : List β} {xs' : List α} {ys' : List β}, Paired R xs ys → Paired R xs' ys' → Paired R (xs ++ xs') (ys ++ ys')
  | _, _, _, _, .nil, h => h
  | _, _, _, _, .cons r q, h => .cons r (p2_app q h)
end SB

set_option maxRecDepth 100000
set_option maxHeartbeats 4000000
namespace W18
open PySem L2 SB
def top (i : Nat) : Stmt := PySem.Challenge.pw_sureparts_k18_whole_rows_below_and_webs.main.body.getD i (.Pass ⟨0, 0, 0, 0⟩)
abbrev sis_integer : Stmt := top 10
abbrev Nis_integer : List Str := ["value"]
theorem scis_integer : FnScope Nis_integer ["value"] (defScope sis_integer) := ⟨rfl, rfl, rfl, by decide +kernel, rfl, by decide +kernel, by decide +kernel⟩
abbrev sis_count : Stmt := top 11
abbrev Nis_count : List Str := ["value"]
theorem scis_count : FnScope Nis_count ["value"] (defScope sis_count) := ⟨rfl, rfl, rfl, by decide +kernel, rfl, by decide +kernel, by decide +kernel⟩
abbrev s_is_arrow : Stmt := top 17
abbrev N_is_arrow : List Str := ["places", "arrow", "end"]
theorem sc_is_arrow : FnScope N_is_arrow ["places", "arrow"] (defScope s_is_arrow) := ⟨rfl, rfl, rfl, by decide +kernel, rfl, by decide +kernel, by decide +kernel⟩
abbrev s_have_ring : Stmt := top 18
abbrev N_have_ring : List Str := ["arrows", "left", "reached", "inner", "_", "head", "tail"]
theorem sc_have_ring : FnScope N_have_ring ["arrows"] (defScope s_have_ring) := ⟨rfl, rfl, rfl, by decide +kernel, rfl, by decide +kernel, by decide +kernel⟩
abbrev s_are_arrows : Stmt := top 16
abbrev N_are_arrows : List Str := ["places", "arrows", "arrow"]
theorem sc_are_arrows : FnScope N_are_arrows ["places", "arrows"] (defScope s_are_arrows) := ⟨rfl, rfl, rfl, by decide +kernel, rfl, by decide +kernel, by decide +kernel⟩
abbrev sWeb__init_ : Stmt := inClass (top 15) 0
abbrev NWeb__init_ : List Str := ["self", "places", "arrows", "tail", "head"]
theorem scWeb__init_ : FnScope NWeb__init_ ["self", "places", "arrows"] (defScope sWeb__init_) := ⟨rfl, rfl, rfl, by decide +kernel, rfl, by decide +kernel, by decide +kernel⟩
abbrev sWeb_places : Stmt := inClass (top 15) 1
abbrev NWeb_places : List Str := ["self"]
theorem scWeb_places : FnScope NWeb_places ["self"] (defScope sWeb_places) := ⟨rfl, rfl, rfl, by decide +kernel, rfl, by decide +kernel, by decide +kernel⟩
abbrev sWeb_arrows : Stmt := inClass (top 15) 3
abbrev NWeb_arrows : List Str := ["self"]
theorem scWeb_arrows : FnScope NWeb_arrows ["self"] (defScope sWeb_arrows) := ⟨rfl, rfl, rfl, by decide +kernel, rfl, by decide +kernel, by decide +kernel⟩
abbrev sWeb__eq_ : Stmt := inClass (top 15) 5
abbrev NWeb__eq_ : List Str := ["self", "other"]
theorem scWeb__eq_ : FnScope NWeb__eq_ ["self", "other"] (defScope sWeb__eq_) := ⟨rfl, rfl, rfl, by decide +kernel, rfl, by decide +kernel, by decide +kernel⟩
abbrev scheck_web : Stmt := top 19
abbrev Ncheck_web : List Str := ["web"]
theorem sccheck_web : FnScope Ncheck_web ["web"] (defScope scheck_web) := ⟨rfl, rfl, rfl, by decide +kernel, rfl, by decide +kernel, by decide +kernel⟩
abbrev sturned_web : Stmt := top 20
abbrev Nturned_web : List Str := ["web", "tail", "head"]
theorem scturned_web : FnScope Nturned_web ["web"] (defScope sturned_web) := ⟨rfl, rfl, rfl, by decide +kernel, rfl, by decide +kernel, by decide +kernel⟩
abbrev sis_row : Stmt := top 25
abbrev Nis_row : List Str := ["web", "value", "size"]
theorem scis_row : FnScope Nis_row ["web", "value"] (defScope sis_row) := ⟨rfl, rfl, rfl, by decide +kernel, rfl, by decide +kernel, by decide +kernel⟩
abbrev scheck_row : Stmt := top 26
abbrev Ncheck_row : List Str := ["web", "row"]
theorem sccheck_row : FnScope Ncheck_row ["web", "row"] (defScope scheck_row) := ⟨rfl, rfl, rfl, by decide +kernel, rfl, by decide +kernel, by decide +kernel⟩
abbrev sform : Stmt := top 27
abbrev Nform : List Str := ["web", "row", "other", "at_places", "size", "late", "tail", "head"]
theorem scform : FnScope Nform ["web", "row", "other"] (defScope sform) := ⟨rfl, rfl, rfl, by decide +kernel, rfl, by decide +kernel, by decide +kernel⟩
abbrev srows_below : Stmt := top 28
abbrev Nrows_below : List Str := ["web", "row", "many", "size", "below", "begun", "less"]
theorem scrows_below : FnScope Nrows_below ["web", "row"] (defScope srows_below) := ⟨rfl, rfl, rfl, by decide +kernel, rfl, by decide +kernel, by decide +kernel⟩
abbrev s_law_pot : Stmt := top 30
abbrev N_law_pot : List Str := ["script", "k", "cell", "mixed"]
theorem sc_law_pot : FnScope N_law_pot ["script", "k"] (defScope s_law_pot) := ⟨rfl, rfl, rfl, by decide +kernel, rfl, by decide +kernel, by decide +kernel⟩
abbrev s_law_draw : Stmt := top 31
abbrev N_law_draw : List Str := ["pot", "sides", "digit"]
theorem sc_law_draw : FnScope N_law_draw ["pot", "sides"] (defScope s_law_draw) := ⟨rfl, rfl, rfl, by decide +kernel, rfl, by decide +kernel, by decide +kernel⟩
abbrev s_law_order : Stmt := top 33
abbrev N_law_order : List Str := ["pot", "many", "left", "found"]
theorem sc_law_order : FnScope N_law_order ["pot", "many"] (defScope s_law_order) := ⟨rfl, rfl, rfl, by decide +kernel, rfl, by decide +kernel, by decide +kernel⟩
abbrev s_law_web : Stmt := top 34
abbrev N_law_web : List Str := ["pot", "least", "most", "arrows", "places", "order", "found", "turn", "far"]
theorem sc_law_web : FnScope N_law_web ["pot", "least", "most", "arrows"] (defScope s_law_web) := ⟨rfl, rfl, rfl, by decide +kernel, rfl, by decide +kernel, by decide +kernel⟩
abbrev s_law_row : Stmt := top 35
abbrev N_law_row : List Str := ["pot", "places", "most", "found", "place"]
theorem sc_law_row : FnScope N_law_row ["pot", "places", "most"] (defScope s_law_row) := ⟨rfl, rfl, rfl, by decide +kernel, rfl, by decide +kernel, by decide +kernel⟩
abbrev s_law_below : Stmt := top 36
abbrev N_law_below : List Str := ["row", "found", "size", "longer", "part", "less"]
theorem sc_law_below : FnScope N_law_below ["row"] (defScope s_law_below) := ⟨rfl, rfl, rfl, by decide +kernel, rfl, by decide +kernel, by decide +kernel⟩
abbrev s_law_other : Stmt := top 37
abbrev N_law_other : List Str := ["pot", "places", "arrows", "kind", "tail", "head"]
theorem sc_law_other : FnScope N_law_other ["pot", "places", "arrows"] (defScope s_law_other) := ⟨rfl, rfl, rfl, by decide +kernel, rfl, by decide +kernel, by decide +kernel⟩
abbrev s_law_parts_right : Stmt := top 38
abbrev N_law_parts_right : List Str := ["web", "row", "other", "due", "told", "part", "whole", "rest", "size", "less"]
theorem sc_law_parts_right : FnScope N_law_parts_right ["web", "row", "other"] (defScope s_law_parts_right) := ⟨rfl, rfl, rfl, by decide +kernel, rfl, by decide +kernel, by decide +kernel⟩
abbrev s_law_alike_right : Stmt := top 39
abbrev N_law_alike_right : List Str := ["web", "places", "arrows", "told", "two", "is_alike", "value"]
theorem sc_law_alike_right : FnScope N_law_alike_right ["web", "places", "arrows", "told"] (defScope s_law_alike_right) := ⟨rfl, rfl, rfl, by decide +kernel, rfl, by decide +kernel, by decide +kernel⟩
abbrev s_law_right : Stmt := top 40
abbrev N_law_right : List Str := ["pot", "places", "arrows", "web", "row", "turn"]
theorem sc_law_right : FnScope N_law_right ["pot"] (defScope s_law_right) := ⟨rfl, rfl, rfl, by decide +kernel, rfl, by decide +kernel, by decide +kernel⟩
abbrev slaw : Stmt := top 41
abbrev Nlaw : List Str := ["script"]
theorem sclaw : FnScope Nlaw ["script"] (defScope slaw) := ⟨rfl, rfl, rfl, by decide +kernel, rfl, by decide +kernel, by decide +kernel⟩
/-! ### the data of the program -/
def webF (n : Int) (q : Addr) : List (Str × V) := [("_places", .int n), ("_arrows", .ref q)]
def WebAt (C : Addr) (H : Hp) (p : Addr) (n : Int) (ar : List (Int × Int)) : Prop := ∃ dx q xs, H p = some (.ins C dx (webF n q)) ∧ H q = some (.lst xs) ∧ Ar H xs ar
theorem WebAt.mono {C : Addr} {H H' : Hp} (e : Ex H H') {p : Addr} {n : Int} {ar : List (Int × Int)} (h : WebAt C H p n ar) : WebAt C H' p n ar := by
  obtain ⟨dx, q, xs, h1, h2, h3⟩ := h
  exact ⟨dx, q, xs, e _ _ h1, e _ _ h2, h3.mono e⟩
theorem web_pl {n : Int} {q : Addr} : (webF n q).lookup ("_places" : Str) = some (.int n) := by rfl
theorem web_ar {n : Int} {q : Addr} : (webF n q).lookup ("_arrows" : Str) = some (.ref q) := by rfl
theorem web_no {n : Int} {q : Addr} {m : Str} (h1 : ¬ m = "_places") (h2 : ¬ m = "_arrows") : (webF n q).lookup m = none := by
  have e1 : (m == ("_places" : Str)) = false := by simpa using h1
  have e2 : (m == ("_arrows" : Str)) = false := by simpa using h2
  simp [webF, List.lookup, e1, e2]
def OkAr (n : Int) (p : Int × Int) : Prop := 0 ≤ p.1 ∧ p.1 < n ∧ 0 ≤ p.2 ∧ p.2 < n ∧ p.1 ≠ p.2
def Acyc (ar : List (Int × Int)) : Prop := ∃ r : Int → Int, ∀ p ∈ ar, r p.1 < r p.2
structure Good (n : Int) (ar : List (Int × Int)) : Prop where
  lo : 1 ≤ n
  hi : n ≤ 13
  inn : ∀ p ∈ ar, OkAr n p
  ac : Acyc ar
  len : ar.length ≤ 12
theorem good_swap {n : Int} {ar : List (Int × Int)} (G : Good n ar) : Good n (ar.map fun p => (p.2, p.1)) := by
  obtain ⟨g1, g2, g3, ⟨r, g4⟩, g5⟩ := G
  refine ⟨g1, g2, fun p hp => ?_, ⟨fun z => - r z, fun p hp => ?_⟩, by simpa using g5⟩
  · obtain ⟨q, hq, rfl⟩ := List.mem_map.mp hp
    obtain ⟨o1, o2, o3, o4, o5⟩ := g3 q hq
    exact ⟨o3, o4, o1, o2, fun z => o5 z.symm⟩
  · obtain ⟨q, hq, rfl⟩ := List.mem_map.mp hp
    have := g4 q hq
    show - r q.2 < - r q.1
    omega
theorem webN {C : Addr} {H H0 H' : Hp} {p dx q : Addr} {n : Int} {ys : List V} {ar : List (Int × Int)} (e : Ex H H0) (hp : H p = none) (hq : H0 q = none) (h1 : H' p = some (.ins C dx (webF n q))) (h2 : H' q = some (.lst ys)) (h3 : Ar (nw H0 H') ys ar) : WebAt C (nw H H') p n ar :=
  ⟨dx, q, ys, nw_at hp h1, nw_at (Evl.fresh_back e hq) h2, h3.mono (nw_mono e (Evl.Ex.refl _))⟩
structure RowOk (n : Int) (ns : List Int) : Prop where
  len : (ns.length : Int) = n
  ok : ∀ z ∈ ns, 0 ≤ z ∧ z ≤ 6
  sum : ns.sum ≤ 24
  nb : n ≤ 13
/-- a list (a list or a tuple) of numbers at a -/
def IL (H : Hp) (a : Addr) (ns : List Int) : Prop := H a = some (.lst (ns.map V.int))
def IS (H : Hp) (a : Addr) (ns : List Int) : Prop := Sq2 H a (ns.map V.int)
theorem IL.is {H : Hp} {a : Addr} {ns : List Int} (h : IL H a ns) : IS H a ns := .inl h
/-- a list of lists of numbers at q -/
def IsRow (H : Hp) (v : V) (r : List Int) : Prop := ∃ l, v = .ref l ∧ IL H l r
def LL (H : Hp) (q : Addr) (rows : List (List Int)) : Prop := ∃ xs, H q = some (.lst xs) ∧ Paired (IsRow H) xs rows
theorem IsRow.mono {H H' : Hp} (e : Ex H H') {v : V} {r : List Int} (h : IsRow H v r) : IsRow H' v r := by
  obtain ⟨l, ev, hl⟩ := h
  exact ⟨l, ev, e _ _ hl⟩
theorem LL.mono {H H' : Hp} (e : Ex H H') {q : Addr} {rows : List (List Int)} (h : LL H q rows) : LL H' q rows := by
  obtain ⟨xs, h1, h2⟩ := h
  exact ⟨xs, e _ _ h1, p2_mono (fun _ _ => IsRow.mono e) h2⟩
/-! ### the mirror -/
def dot (ns ms : List Int) : Int := ((ns.zip ms).map fun q => q.1 * q.2).sum
def arsum (ar : List (Int × Int)) (ns ms : List Int) : Int := (ar.map fun p => ns.getD p.1.toNat 0 * ms.getD p.2.toNat 0).sum
def formM (ar : List (Int × Int)) (ns ms : List Int) : Int := dot ns ms - arsum ar ns ms
def stepB (below : List (List Int)) (size : Int) : List (List Int) := below.flatMap fun b => (List.range (size + 1).toNat).map fun (k : Nat) => b ++ [(k : Int)]
def belowM (ns : List Int) : List (List Int) := ns.foldl stepB [[]]
def prodM (ns : List Int) : Int := ns.foldl (fun m z => m * (z + 1)) 1
def partB (b : List Int) (j : Nat) : List (List Int) := (List.range j).map fun (k : Nat) => b ++ [(k : Int)]
theorem partB_len (b : List Int) (j : Nat) : (partB b j).length = j := by simp [partB]
theorem partB_succ (b : List Int) (j : Nat) : partB b (j + 1) = partB b j ++ [b ++ [(j : Int)]] := by simp [partB, List.range_succ]
theorem flat_len (n : Nat) : ∀ rows : List (List Int), (rows.flatMap fun b => partB b n).length = rows.length * n
  | [] => by simp
  | b :: r => by
    rw [List.flatMap_cons, List.length_append, flat_len n r, partB_len, List.length_cons, Nat.add_mul, Nat.one_mul, Nat.add_comm]
theorem stepB_eq (rows : List (List Int)) (z : Int) : stepB rows z = rows.flatMap fun b => partB b (z + 1).toNat := rfl
theorem fold_take {α β : Type} (f : β → α → β) (b : β) : ∀ (l : List α) (j : Nat) (z : α), l[j]? = some z → (l.take (j + 1)).foldl f b = f ((l.take j).foldl f b) z
  | [], j, z, h => by simp at h
  | a :: r, 0, z, h => by
    have e : a = z := Option.some.inj h
    subst e; rfl
  | a :: r, j + 1, z, h => by
    have := fold_take f (f b a) r j z (by simpa using h)
    simpa using this
theorem below_take {ns : List Int} {j : Nat} {z : Int} (h : ns[j]? = some z) : belowM (ns.take (j + 1)) = stepB (belowM (ns.take j)) z := fold_take stepB [[]] ns j z h
theorem prod_take {ns : List Int} {j : Nat} {z : Int} (h : ns[j]? = some z) : prodM (ns.take (j + 1)) = prodM (ns.take j) * (z + 1) := fold_take (fun m z => m * (z + 1)) 1 ns j z h
theorem prod_pos : ∀ (ns : List Int) (m : Int), 1 ≤ m → (∀ z ∈ ns, 0 ≤ z) → m ≤ ns.foldl (fun m z => m * (z + 1)) m
  | [], m, _, _ => Int.le_refl _
  | a :: r, m, hm, h => by
    have h0 := h a List.mem_cons_self
    have h1 : m ≤ m * (a + 1) := by
      have : m * 1 ≤ m * (a + 1) := Int.mul_le_mul_of_nonneg_left (by omega) (by omega)
      omega
    have h2 := prod_pos r (m * (a + 1)) (by omega) fun z hz => h z (List.mem_cons_of_mem _ hz)
    exact Int.le_trans h1 h2
theorem prod_le {ns : List Int} (h : ∀ z ∈ ns, 0 ≤ z) (j : Nat) : 1 ≤ prodM (ns.take j) ∧ prodM (ns.take j) ≤ prodM ns := by
  have h1 := prod_pos (ns.take j) 1 (by decide) fun z hz => h z (List.mem_of_mem_take hz)
  refine ⟨h1, ?_⟩
  have h2 := prod_pos (ns.drop j) (prodM (ns.take j)) h1 fun z hz => h z (List.mem_of_mem_drop hz)
  have e : prodM ns = (ns.drop j).foldl (fun m z => m * (z + 1)) (prodM (ns.take j)) := by
    unfold prodM
    rw [← List.foldl_append, List.take_append_drop]
  rw [e]; exact h2
theorem below_len : ∀ (ns : List Int) (rows : List (List Int)) (m : Int), (∀ z ∈ ns, 0 ≤ z) → (rows.length : Int) = m → ((ns.foldl stepB rows).length : Int) = ns.foldl (fun m z => m * (z + 1)) m
  | [], rows, m, _, h => h
  | a :: r, rows, m, h, e => by
    have h0 := h a List.mem_cons_self
    refine below_len r (stepB rows a) (m * (a + 1)) (fun z hz => h z (List.mem_cons_of_mem _ hz)) ?_
    rw [stepB_eq, flat_len, Int.natCast_mul, e]
    congr 1
    omega
theorem below_rows : ∀ (ns : List Int) (rows : List (List Int)) (n : Nat), (∀ r ∈ rows, r.length = n) → ∀ r ∈ ns.foldl stepB rows, r.length = n + ns.length
  | [], rows, n, h, r, hr => h r hr
  | a :: s, rows, n, h, r, hr => by
    have := below_rows s (stepB rows a) (n + 1) (fun q hq => by
      rw [stepB_eq] at hq
      obtain ⟨b, hb, hq⟩ := List.mem_flatMap.mp hq
      obtain ⟨k, _, rfl⟩ := List.mem_map.mp hq
      rw [List.length_append, h b hb]; rfl) r hr
    rw [this, List.length_cons]; omega
def gB (rows : List (List Int)) (n i j : Nat) : List (List Int) := ((rows.take i).flatMap fun b => partB b n) ++ partB (rows.getD i []) j
theorem gB_zero (rows : List (List Int)) (n : Nat) : gB rows n 0 0 = [] := by simp [gB, partB]
theorem gB_next (rows : List (List Int)) (n i : Nat) (h : i < rows.length) : gB rows n (i + 1) 0 = gB rows n i n := by
  unfold gB
  rw [List.take_add_one, List.getElem?_eq_getElem h, List.flatMap_append]
  simp [partB, List.getD, h]
theorem gB_succ (rows : List (List Int)) (n i j : Nat) : gB rows n i (j + 1) = gB rows n i j ++ [rows.getD i [] ++ [(j : Int)]] := by
  unfold gB
  rw [partB_succ, List.append_assoc]
theorem gB_len (rows : List (List Int)) (n i j : Nat) : (gB rows n i j).length ≤ rows.length * n + j := by
  unfold gB
  rw [List.length_append, partB_len, flat_len]
  have h1 : (rows.take i).length ≤ rows.length := by rw [List.length_take]; omega
  have h2 : (rows.take i).length * n ≤ rows.length * n := Nat.mul_le_mul_right n h1
  omega
theorem gB_end (rows : List (List Int)) (z : Int) : gB rows (z + 1).toNat rows.length 0 = stepB rows z := by
  unfold gB
  rw [List.take_length, stepB_eq]
  simp [partB]
/-! ### rows below a row: at most it, with what is left -/
def Le2 (r ns : List Int) : Prop := Paired (fun x y : Int => 0 ≤ x ∧ x ≤ y) r ns
theorem below_le : ∀ (ns : List Int) (rows : List (List Int)) (pre : List Int), (∀ r ∈ rows, Le2 r pre) → ∀ r ∈ ns.foldl stepB rows, Le2 r (pre ++ ns)
  | [], rows, pre, h, r, hr => by rw [List.append_nil]; exact h r hr
  | a :: s, rows, pre, h, r, hr => by
    have := below_le s (stepB rows a) (pre ++ [a]) (fun q hq => by
      rw [stepB_eq] at hq
      obtain ⟨b, hb, hq⟩ := List.mem_flatMap.mp hq
      obtain ⟨k, hk, rfl⟩ := List.mem_map.mp hq
      have := List.mem_range.mp hk
      exact p2_snoc (h b hb) ⟨by omega, by omega⟩) r hr
    rw [List.append_assoc] at this
    exact this
theorem belowM_le {ns r : List Int} (h : r ∈ belowM ns) : Le2 r ns := below_le ns [[]] [] (fun r hr => by rcases List.mem_cons.mp hr with e | e; (subst e; exact .nil); cases e) r h
def subM (ns r : List Int) : List Int := (ns.zip r).map fun q => q.1 - q.2
theorem le2_facts : ∀ {r ns : List Int}, Le2 r ns → r.length = ns.length ∧ r.sum ≤ ns.sum ∧ (subM ns r).length = ns.length ∧ (subM ns r).sum + r.sum = ns.sum ∧ 0 ≤ r.sum
  | _, _, .nil => ⟨rfl, Int.le_refl _, rfl, rfl, Int.le_refl _⟩
  | _, _, .cons (a := x) (b := y) h q => by
    obtain ⟨h1, h2, h3, h4, h5⟩ := le2_facts q
    refine ⟨by simp [h1], by simp only [List.sum_cons]; omega, by simpa [subM] using h3, ?_, by simp only [List.sum_cons]; omega⟩
    simp only [subM, List.zip_cons_cons, List.map_cons, List.sum_cons] at h4 ⊢
    omega
theorem le2_all {m : Int} : ∀ {r ns : List Int}, Le2 r ns → (∀ z ∈ ns, 0 ≤ z ∧ z ≤ m) → (∀ z ∈ r, 0 ≤ z ∧ z ≤ m) ∧ ∀ z ∈ subM ns r, 0 ≤ z ∧ z ≤ m
  | _, _, .nil, _ => ⟨by simp, by simp [subM]⟩
  | _, _, .cons (a := x) (b := y) h q, k => by
    obtain ⟨h1, h2⟩ := le2_all q fun z hz => k z (List.mem_cons_of_mem _ hz)
    have ky := k y List.mem_cons_self
    refine ⟨fun z hz => ?_, fun z hz => ?_⟩
    · rcases List.mem_cons.mp hz with e | e
      · subst e; omega
      · exact h1 z e
    · simp only [subM, List.zip_cons_cons, List.map_cons] at hz
      rcases List.mem_cons.mp hz with e | e
      · subst e; show 0 ≤ y - x ∧ y - x ≤ m; omega
      · exact h2 z e
theorem rowOk_below {n : Int} {ns r : List Int} (R : RowOk n ns) (h : Le2 r ns) : RowOk n r ∧ RowOk n (subM ns r) := by
  obtain ⟨h1, h2, h3, h4, h5⟩ := le2_facts h
  obtain ⟨k1, k2⟩ := le2_all h R.ok
  have a1 := R.len
  have a2 := R.sum
  exact ⟨⟨by omega, k1, by omega, R.nb⟩, ⟨by omega, k2, by omega, R.nb⟩⟩
theorem dot_add : ∀ {r ns : List Int} (ms : List Int), Le2 r ns → dot r ms + dot (subM ns r) ms = dot ns ms
  | _, _, ms, .nil => by simp [dot, subM]
  | _, _, [], .cons h q => by simp [dot, subM]
  | _, _, m :: ms, .cons (a := x) (b := y) h q => by
    have ih := dot_add ms q
    simp only [dot, subM, List.zip_cons_cons, List.map_cons, List.sum_cons] at ih ⊢
    have e : y * m = x * m + (y - x) * m := by rw [← Int.add_mul]; congr 1; omega
    omega
theorem get_add : ∀ {r ns : List Int} (i : Nat), Le2 r ns → r.getD i 0 + (subM ns r).getD i 0 = ns.getD i 0
  | _, _, i, .nil => by simp [subM]
  | _, _, 0, .cons (a := x) (b := y) h q => by simp [subM]; omega
  | _, _, i + 1, .cons h q => by
    have := get_add i q
    simpa [subM] using this
theorem arsum_add (ms : List Int) {r ns : List Int} (h : Le2 r ns) : ∀ ar : List (Int × Int), arsum ar r ms + arsum ar (subM ns r) ms = arsum ar ns ms
  | [] => by simp [arsum]
  | p :: s => by
    have ih := arsum_add ms h s
    have g := get_add p.1.toNat h
    simp only [arsum, List.map_cons, List.sum_cons] at ih ⊢
    have e : ns.getD p.1.toNat 0 * ms.getD p.2.toNat 0 = r.getD p.1.toNat 0 * ms.getD p.2.toNat 0 + (subM ns r).getD p.1.toNat 0 * ms.getD p.2.toNat 0 := by rw [← Int.add_mul, g]
    omega
theorem form_add (ar : List (Int × Int)) (ms : List Int) {r ns : List Int} (h : Le2 r ns) : formM ar r ms + formM ar (subM ns r) ms = formM ar ns ms := by
  have h1 := dot_add ms h
  have h2 := arsum_add ms h ar
  unfold formM
  omega
theorem swap_inj (a b : List (Int × Int)) : (a.map fun p => (p.2, p.1)) = (b.map fun p => (p.2, p.1)) ↔ a = b := by
  constructor
  · intro h
    have h2 := congrArg (List.map fun p : Int × Int => (p.2, p.1)) h
    simpa [List.map_map, Function.comp_def] using h2
  · intro h; rw [h]
/-! ### the promises of the program's defs -/
def sp_is_integer : Sp := fun vs H Q _ => ∃ n : Int, vs = [.int n] ∧ Q (.bl true) H
def sp_is_count : Sp := fun vs H Q _ => ∃ n : Int, vs = [.int n] ∧ Q (.bl (decide (0 ≤ n))) H
def sp__is_arrow : Sp := fun vs H Q _ => ∃ (n : Int) (v : V) (p : Int × Int), vs = [.int n, v] ∧ IsPr H v p ∧ OkAr n p ∧ ∀ H', Ex H H' → Q (.bl true) H'
def sp__have_ring : Sp := fun vs H Q _ => ∃ (a : Addr) (xs : List V) (ar : List (Int × Int)), vs = [.ref a] ∧ Sq2 H a xs ∧ Ar H xs ar ∧ Acyc ar ∧ ar.length ≤ 12 ∧ ∀ H', Ex H H' → Q (.bl false) H'
def sp__are_arrows : Sp := fun vs H Q _ => ∃ (n : Int) (a : Addr) (xs : List V) (ar : List (Int × Int)), vs = [.int n, .ref a] ∧ Sq2 H a xs ∧ Ar H xs ar ∧ Good n ar ∧ ∀ H', Ex H H' → Q (.bl true) H'
def sp_Web__init_ (C : Addr) : Sp := fun vs H Q _ => ∃ (p dx : Addr) (n : Int) (a : Addr) (xs : List V) (ar : List (Int × Int)), vs = [.ref p, .int n, .ref a] ∧ H p = some (.ins C dx []) ∧ Sq2 H a xs ∧ Ar H xs ar ∧ Good n ar ∧
  ∀ H' q ys, H q = none → (∀ b o, H b = some o → b ≠ p → H' b = some o) → H' p = some (.ins C dx (webF n q)) → H' q = some (.lst ys) → Ar (nw H H') ys ar → Q .non H'
def sp_Web_places (C : Addr) : Sp := fun vs H Q _ => ∃ (p : Addr) (n : Int) (ar : List (Int × Int)), vs = [.ref p] ∧ WebAt C H p n ar ∧ Q (.int n) H
def sp_Web_arrows (C : Addr) : Sp := fun vs H Q _ => ∃ (p : Addr) (n : Int) (ar : List (Int × Int)), vs = [.ref p] ∧ WebAt C H p n ar ∧ ∀ l xs, H l = none → Ar H xs ar → Q (.ref l) (upd H l (.lst xs))
/-- == : another web, or a value of another kind -/
def sp_Web__eq_ (C : Addr) : Sp := fun vs H Q _ => ∃ (p : Addr) (n : Int) (ar : List (Int × Int)) (v : V), vs = [.ref p, v] ∧ WebAt C H p n ar ∧
  ((∃ p2 n2 ar2, v = .ref p2 ∧ WebAt C H p2 n2 ar2 ∧ Q (.bl (decide (n = n2 ∧ ar = ar2))) H) ∨ ((v = .non ∨ (∃ i, v = .int i) ∨ (∃ a xs, v = .ref a ∧ Sq2 H a xs)) ∧ Q (.bl false) H))
def sp_check_web (C : Addr) : Sp := fun vs H Q _ => ∃ (p : Addr) (n : Int) (ar : List (Int × Int)), vs = [.ref p] ∧ WebAt C H p n ar ∧ Q .non H
def sp_turned_web (C : Addr) : Sp := fun vs H Q _ => ∃ (p : Addr) (n : Int) (ar : List (Int × Int)), vs = [.ref p] ∧ WebAt C H p n ar ∧ Good n ar ∧ ∀ H' q, Ex H H' → WebAt C (nw H H') q n (ar.map fun p => (p.2, p.1)) → Q (.ref q) H'
def sp_is_row (C : Addr) : Sp := fun vs H Q _ => ∃ (p a : Addr) (n : Int) (ar : List (Int × Int)) (ns : List Int), vs = [.ref p, .ref a] ∧ WebAt C H p n ar ∧ IS H a ns ∧ RowOk n ns ∧ ∀ H', Ex H H' → Q (.bl true) H'
def sp_check_row (C : Addr) : Sp := fun vs H Q _ => ∃ (p a : Addr) (n : Int) (ar : List (Int × Int)) (ns : List Int), vs = [.ref p, .ref a] ∧ WebAt C H p n ar ∧ IS H a ns ∧ RowOk n ns ∧ ∀ H', Ex H H' → Q .non H'
def sp_form (C : Addr) : Sp := fun vs H Q _ => ∃ (p a b : Addr) (n : Int) (ar : List (Int × Int)) (ns ms : List Int), vs = [.ref p, .ref a, .ref b] ∧ WebAt C H p n ar ∧ (∀ p ∈ ar, OkAr n p) ∧ ar.length ≤ 12 ∧ IL H a ns ∧ RowOk n ns ∧ IL H b ms ∧ RowOk n ms ∧ ∀ H', Ex H H' → Q (.int (formM ar ns ms)) H'
def sp_rows_below (C : Addr) : Sp := fun vs H Q _ => ∃ (p a : Addr) (n : Int) (ar : List (Int × Int)) (ns : List Int), vs = [.ref p, .ref a] ∧ WebAt C H p n ar ∧ IS H a ns ∧ RowOk n ns ∧ prodM ns ≤ 400 ∧ ∀ H' q, Ex H H' → LL (nw H H') q (belowM ns) → Q (.ref q) H'
/-- the turns of the search for a ring -/
def WRing (H : Hp) (a : Addr) (rk : Int → Int) (m : Nat) (σ : L2.St) (H2 : Hp) : Prop := ∃ (l : Addr) (xs2 : List V) (ar2 : List (Int × Int)) (v2 v3 v4 v5 v6 : Option V),
  σ = [some (.ref a), some (.ref l), v2, v3, v4, v5, v6] ∧ Ex H H2 ∧ H2 l = some (.lst xs2) ∧ Ar H2 xs2 ar2 ∧ (∀ p ∈ ar2, rk p.1 < rk p.2) ∧ ar2.length ≤ 12 ∧ m = ar2.length
/-! ### the promises of the law's defs -/
def PotAt (H : Hp) (p : Addr) : Prop := ∃ x y : Int, H p = some (.lst [.int x, .int y]) ∧ 0 ≤ x ∧ 0 ≤ y ∧ y ≤ 2147483563
theorem PotAt.some {H : Hp} {p : Addr} (h : PotAt H p) : ∃ o, H p = some o := by obtain ⟨x, y, e, _⟩ := h; exact ⟨_, e⟩
theorem PotAt.mono {H H' : Hp} (e : Ex H H') {p : Addr} (h : PotAt H p) : PotAt H' p := by
  obtain ⟨x, y, h, k⟩ := h
  exact ⟨x, y, e _ _ h, k⟩
def sp__law_pot (K : PySem.W.Frag) : Sp := fun vs H Q _ => ∃ (a : Addr) (ns : List Int), vs = [.ref a, .int 0] ∧ SqL K H a (ns.map V.int) ∧ ∀ p H', Ex H H' → PotAt H' p → Q (.ref p) H'
def sp__law_draw : Sp := fun vs H Q _ => ∃ (p : Addr) (n : Int), vs = [.ref p, .int n] ∧ PotAt H p ∧ 0 < n ∧ n ≤ 100000 ∧ ∀ d H', 0 ≤ d → d < n → Ex (dr p H) (dr p H') → PotAt H' p → Q (.int d) H'
/-- the order: a list of unlike numbers 0 .. n - 1 -/
def sp__law_order : Sp := fun vs H Q _ => ∃ (p : Addr) (n : Int), vs = [.ref p, .int n] ∧ PotAt H p ∧ 0 ≤ n ∧ n ≤ 1000 ∧ ∀ q os H', (os.length : Int) = n → os.Nodup → (∀ z ∈ os, 0 ≤ z ∧ z < n) → H q = none → Ex (dr p H) (dr p H') → PotAt H' p → IL H' q os → Q (.ref q) H'
def WOrder (H : Hp) (p : Addr) (n : Int) (l f : Addr) (m : Nat) (σ : L2.St) (H2 : Hp) : Prop := ∃ ls fs : List Int, σ = [some (.ref p), some (.int n), some (.ref l), some (.ref f)] ∧ Ex (dr p H) (dr p H2) ∧ PotAt H2 p ∧
  H2 l = some (.lst (ls.map V.int)) ∧ H2 f = some (.lst (fs.map V.int)) ∧ (ls ++ fs).Perm ((List.range n.toNat).map fun (i : Nat) => (i : Int)) ∧ m = ls.length
def WBel (H : Hp) (a : Addr) (ns : List Int) (j : Nat) (σ : L2.St) (H' : Hp) : Prop := ∃ (q : Addr) (v2 v3 v4 : Option V), σ = [some (.ref a), some (.ref q), v2, v3, v4, none] ∧ Ex H H' ∧ LL (nw H H') q (belowM (ns.take j))
/-- the inner turns -/
def WIn (H : Hp) (a q g : Addr) (z : Int) (rows : List (List Int)) (xs : List V) (i : Nat) (σ : L2.St) (H' : Hp) : Prop := ∃ (v4 : Option V) (ys : List V), σ = [some (.ref a), some (.ref q), some (.int z), some (.ref g), v4, none] ∧ Ex H (dr g H') ∧ (dr g H') q = some (.lst xs) ∧ Paired (IsRow (nw H (dr g H'))) xs rows ∧
  H' g = some (.lst ys) ∧ Paired (IsRow (nw H (dr g H'))) ys (gB rows (z + 1).toNat i 0)
def WEnd (H2 : Hp) (p : Addr) (n : Int) (l x qr : Addr) (i : Nat) (σ : L2.St) (H6 : Hp) : Prop := ∃ v5 : Option V, σ = [some (.ref p), some (.int n), some (.ref l), some (.ref x), some (.ref qr), v5] ∧ Ex (dr p H2) (dr p H6) ∧ PotAt H6 p
def WRow (H : Hp) (p : Addr) (n m : Int) (f : Addr) (i : Nat) (σ : L2.St) (H5 : Hp) : Prop := ∃ (ns : List Int) (v4 : Option V), σ = [some (.ref p), some (.int n), some (.int m), some (.ref f), v4] ∧ Ex (dr p H) (dr p H5) ∧ PotAt H5 p ∧
  H5 f = some (.lst (ns.map V.int)) ∧ ns.length = i ∧ ∀ z ∈ ns, 0 ≤ z ∧ z ≤ m
/-- a web's places and arrows -/
def PA2 (H : Hp) (t : Addr) (n : Int) (ar : List (Int × Int)) : Prop := ∃ l xs, H t = some (.tup [.int n, .ref l]) ∧ H l = some (.lst xs) ∧ Ar H xs ar
theorem PA2.mono {H H' : Hp} (e : Ex H H') {t : Addr} {n : Int} {ar : List (Int × Int)} (h : PA2 H t n ar) : PA2 H' t n ar := by
  obtain ⟨l, xs, h1, h2, h3⟩ := h
  exact ⟨l, xs, e _ _ h1, e _ _ h2, h3.mono e⟩
def sp__law_web : Sp := fun vs H Q _ => ∃ (p : Addr) (lo hi m : Int), vs = [.ref p, .int lo, .int hi, .int m] ∧ PotAt H p ∧ 1 ≤ lo ∧ lo ≤ hi ∧ hi ≤ 13 ∧ 0 ≤ m ∧ m ≤ 12 ∧
  ∀ t n ar H', Good n ar → lo ≤ n → n ≤ hi → (ar.length : Int) ≤ m → Ex (dr p H) (dr p H') → PotAt H' p → PA2 (nw H H') t n ar → Q (.ref t) H'
def sp__law_row : Sp := fun vs H Q _ => ∃ (p : Addr) (n m : Int), vs = [.ref p, .int n, .int m] ∧ PotAt H p ∧ 0 ≤ n ∧ n ≤ 13 ∧ 0 ≤ m ∧ m ≤ 1000 ∧
  ∀ q ns H', (ns.length : Int) = n → (∀ z ∈ ns, 0 ≤ z ∧ z ≤ m) → H q = none → Ex (dr p H) (dr p H') → PotAt H' p → IL H' q ns → Q (.ref q) H'
def sp__law_below : Sp := fun vs H Q _ => ∃ (a : Addr) (ns : List Int), vs = [.ref a] ∧ IL H a ns ∧ (∀ z ∈ ns, 0 ≤ z ∧ z ≤ 6) ∧ ns.length ≤ 13 ∧ prodM ns ≤ 400 ∧ ∀ H' q, Ex H H' → LL (nw H H') q (belowM ns) → Q (.ref q) H'
def sp__law_other : Sp := fun vs H Q _ => ∃ (p a : Addr) (n : Int) (xs : List V) (ar : List (Int × Int)), vs = [.ref p, .int n, .ref a] ∧ PotAt H p ∧ (dr p H) a = some (.lst xs) ∧ Ar (dr p H) xs ar ∧ Good n ar ∧ n ≤ 12 ∧
  ∀ t n' ar' H', Good n' ar' → Ex (dr p H) (dr p H') → PotAt H' p → PA2 (dr p H') t n' ar' → Q (.ref t) H'
def sp__law_parts_right (C : Addr) : Sp := fun vs H Q _ => ∃ (p a b : Addr) (n : Int) (ar : List (Int × Int)) (ns ms : List Int), vs = [.ref p, .ref a, .ref b] ∧ WebAt C H p n ar ∧ Good n ar ∧ IL H a ns ∧ RowOk n ns ∧ prodM ns ≤ 400 ∧ IL H b ms ∧ RowOk n ms ∧ ∀ H', Ex H H' → Q (.bl true) H'
def sp__law_alike_right (C : Addr) : Sp := fun vs H Q _ => ∃ (p a t : Addr) (n : Int) (xs : List V) (ar : List (Int × Int)) (n2 : Int) (ar2 : List (Int × Int)), vs = [.ref p, .int n, .ref a, .ref t] ∧ WebAt C H p n ar ∧ Good n ar ∧ H a = some (.lst xs) ∧ Ar H xs ar ∧ PA2 H t n2 ar2 ∧ Good n2 ar2 ∧ ∀ H', Ex H H' → Q (.bl true) H'
def sp__law_right : Sp := fun vs H Q _ => ∃ p : Addr, vs = [.ref p] ∧ PotAt H p ∧ ∀ H', Q (.bl true) H'
def sp_law (K : PySem.W.Frag) : Sp := fun vs H Q _ => ∃ (a : Addr) (ns : List Int), vs = [.ref a] ∧ SqL K H a (ns.map V.int) ∧ ∀ H', Q (.bl true) H'
def KBw : List Value → List Value → List Value := fun us ws => us ++ ws.reverse
def KBv : List V → List V → List V := fun us ws => us ++ ws.reverse
theorem dp_rows {K : PySem.W.Frag} {H : Hp} {q : Addr} {rows : List (List Int)} (h : LL H q rows) : Dp K H (.ref q) (dRows rows) := by
  obtain ⟨xs, h1, h2⟩ := h
  refine .lst (sqL h1) (dpAll_of (f := dIs) (fun v r hv => ?_) h2)
  obtain ⟨l, rfl, hl⟩ := hv
  exact dp_is hl
theorem dp_pa {K : PySem.W.Frag} {H : Hp} {t : Addr} {n : Int} {ar : List (Int × Int)} (h : PA2 H t n ar) : Dp K H (.ref t) (dPA n ar) := by
  obtain ⟨l, xs, h1, h2, h3⟩ := h
  exact .tup (sqT h1) (.cons (.int n) (.cons (dp_prs h2 h3) .nil))
/-- web == another web -/
theorem eqWeb {K : PySem.W.Frag} {C : Addr} {H : Hp} {Q : VK} {p p2 : Addr} {n n2 : Int} {ar ar2 : List (Int × Int)} (h : WebAt C H p n ar) (h2 : WebAt C H p2 n2 ar2) (q : Q (.bl (decide (n = n2 ∧ ar = ar2))) H) : rEqOwn K C (sp_Web__eq_ C) E0 (.ref p) (.ref p2) H Q := by
  obtain ⟨dx, l, xs, h1, _, _⟩ := id h
  obtain ⟨dx2, l2, xs2, g1, _, _⟩ := id h2
  exact ⟨p, dx, _, .ref C, rfl, h1, .ins g1, nf_self, p, n, ar, .ref p2, rfl, h, .inl ⟨p2, n2, ar2, rfl, h2, _, rfl, q⟩⟩
/-- web == a value of another kind -/
theorem neWeb {K : PySem.W.Frag} {C : Addr} {H : Hp} {Q : VK} {p : Addr} {n : Int} {ar : List (Int × Int)} {v : V} (h : WebAt C H p n ar) (hv : v = .non ∨ (∃ i, v = .int i) ∨ (∃ a xs, v = .ref a ∧ Sq2 H a xs)) (q : Q (.bl false) H) : rEqOwn K C (sp_Web__eq_ C) E0 (.ref p) v H Q := by
  obtain ⟨dx, l, xs, h1, _, _⟩ := id h
  have hty : ∃ T1, TyR H v (.type T1) ∧ PySem.W.notFirst K C (.type T1) = true := by
    rcases hv with rfl | ⟨i, rfl⟩ | ⟨b, ys, rfl, hb | hb⟩
    · exact ⟨_, .non, nf_of mro_none⟩
    · exact ⟨_, .int i, nf_of mro_int⟩
    · exact ⟨_, .lst hb, nf_of mro_list⟩
    · exact ⟨_, .tup hb, nf_of mro_tuple⟩
  obtain ⟨T1, t1, t2⟩ := hty
  exact ⟨p, dx, _, _, rfl, h1, t1, t2, p, n, ar, v, rfl, h, .inr ⟨hv, _, rfl, q⟩⟩
theorem good_sub {n : Int} {ar br : List (Int × Int)} (G : Good n ar) (h : ∀ p ∈ br, p ∈ ar) (hl : br.length ≤ ar.length) : Good n br := by
  obtain ⟨g1, g2, g3, ⟨r, g4⟩, g5⟩ := G
  exact ⟨g1, g2, fun p hp => g3 p (h p hp), ⟨r, fun p hp => g4 p (h p hp)⟩, by omega⟩
theorem good_more {n : Int} {ar : List (Int × Int)} (G : Good n ar) (h : n ≤ 12) : Good (n + 1) ar := by
  obtain ⟨g1, g2, g3, g4, g5⟩ := G
  exact ⟨by omega, by omega, fun p hp => by obtain ⟨o1, o2, o3, o4, o5⟩ := g3 p hp; exact ⟨o1, by omega, o3, by omega, o5⟩, g4, g5⟩
theorem sum_bound {m : Int} : ∀ ns : List Int, (∀ z ∈ ns, 0 ≤ z ∧ z ≤ m) → ns.sum ≤ (ns.length : Int) * m
  | [], _ => by simp
  | a :: r, h => by
    have h1 := h a List.mem_cons_self
    have h2 := sum_bound r fun z hz => h z (List.mem_cons_of_mem _ hz)
    rw [List.sum_cons, List.length_cons, Int.natCast_add, Int.add_mul]
    show a + r.sum ≤ (r.length : Int) * m + 1 * m
    omega
theorem prod_bound {m : Int} (hm : 0 ≤ m) : ∀ (ns : List Int) (c : Int), 0 ≤ c → (∀ z ∈ ns, 0 ≤ z ∧ z ≤ m) → ns.foldl (fun m z => m * (z + 1)) c ≤ c * (m + 1) ^ ns.length
  | [], c, _, _ => by simp
  | a :: r, c, hc, h => by
    have h1 := h a List.mem_cons_self
    have h0 : 0 ≤ c * (a + 1) := Int.mul_nonneg hc (by omega)
    have h2 := prod_bound hm r (c * (a + 1)) h0 fun z hz => h z (List.mem_cons_of_mem _ hz)
    have h3 : c * (a + 1) ≤ c * (m + 1) := Int.mul_le_mul_of_nonneg_left (by omega) hc
    have h4 : 0 ≤ (m + 1) ^ r.length := Int.pow_nonneg (by omega)
    have h5 : c * (a + 1) * (m + 1) ^ r.length ≤ c * (m + 1) * (m + 1) ^ r.length := Int.mul_le_mul_of_nonneg_right h3 h4
    rw [List.length_cons, Int.pow_succ, Int.mul_comm ((m + 1) ^ r.length) (m + 1), ← Int.mul_assoc]
    exact Int.le_trans h2 h5
/-- the drawn rows -/
theorem row_small {n : Int} {ns : List Int} (n1 : 1 ≤ n) (n4 : n ≤ 4) (hl : (ns.length : Int) = n) (h : ∀ z ∈ ns, 0 ≤ z ∧ z ≤ 5 - n) : RowOk n ns ∧ prodM ns ≤ 400 := by
  have hs := sum_bound ns h
  have hp : prodM ns ≤ 1 * (5 - n + 1) ^ ns.length := prod_bound (by omega) ns 1 (by decide) h
  have hc : n = 1 ∨ n = 2 ∨ n = 3 ∨ n = 4 := by omega
  refine ⟨⟨hl, fun z hz => by have := h z hz; omega, ?_, by omega⟩, ?_⟩
  · rcases hc with e | e | e | e <;> rw [hl, e] at hs <;> omega
  · rcases hc with e | e | e | e
    all_goals
      have hl2 : ns.length = n.toNat := by omega
      rw [hl2, e] at hp
      refine Int.le_trans hp ?_
      decide
theorem row_any {n : Int} {ns : List Int} (n4 : n ≤ 4) (hl : (ns.length : Int) = n) (h : ∀ z ∈ ns, 0 ≤ z ∧ z ≤ 6) : RowOk n ns := by
  have hs := sum_bound ns h
  refine ⟨hl, h, ?_, by omega⟩
  have : (ns.length : Int) * 6 ≤ 24 := by omega
  omega
structure Txt (K : PySem.W.Frag) (mg : Str → Option Value) where
  q_Web_places : Addr
  C_Web : Addr
  a_is_integer : Addr
  d_is_integer : FuncData
  a_is_count : Addr
  d_is_count : FuncData
  a__is_arrow : Addr
  d__is_arrow : FuncData
  a__have_ring : Addr
  d__have_ring : FuncData
  a__are_arrows : Addr
  d__are_arrows : FuncData
  a_Web__init_ : Addr
  d_Web__init_ : FuncData
  a_Web_places : Addr
  d_Web_places : FuncData
  a_Web_arrows : Addr
  d_Web_arrows : FuncData
  a_Web__eq_ : Addr
  d_Web__eq_ : FuncData
  a_check_web : Addr
  d_check_web : FuncData
  a_turned_web : Addr
  d_turned_web : FuncData
  a_is_row : Addr
  d_is_row : FuncData
  a_check_row : Addr
  d_check_row : FuncData
  a_form : Addr
  d_form : FuncData
  a_rows_below : Addr
  d_rows_below : FuncData
  a__law_pot : Addr
  d__law_pot : FuncData
  a__law_draw : Addr
  d__law_draw : FuncData
  a__law_order : Addr
  d__law_order : FuncData
  a__law_web : Addr
  d__law_web : FuncData
  a__law_row : Addr
  d__law_row : FuncData
  a__law_below : Addr
  d__law_below : FuncData
  a__law_other : Addr
  d__law_other : FuncData
  a__law_parts_right : Addr
  d__law_parts_right : FuncData
  a__law_alike_right : Addr
  d__law_alike_right : FuncData
  a__law_right : Addr
  d__law_right : FuncData
  a_law : Addr
  d_law : FuncData
  F_is_integer : Fun K "is_integer" "is_integer" sis_integer a_is_integer d_is_integer
  b_is_integer : Binds K d_is_integer ["value"] []
  m_is_integer : mg "is_integer" = some (.ref a_is_integer)
  F_is_count : Fun K "is_count" "is_count" sis_count a_is_count d_is_count
  b_is_count : Binds K d_is_count ["value"] []
  m_is_count : mg "is_count" = some (.ref a_is_count)
  F__is_arrow : Fun K "_is_arrow" "_is_arrow" s_is_arrow a__is_arrow d__is_arrow
  b__is_arrow : Binds K d__is_arrow ["places", "arrow"] []
  m__is_arrow : mg "_is_arrow" = some (.ref a__is_arrow)
  F__have_ring : Fun K "_have_ring" "_have_ring" s_have_ring a__have_ring d__have_ring
  b__have_ring : Binds K d__have_ring ["arrows"] []
  m__have_ring : mg "_have_ring" = some (.ref a__have_ring)
  F__are_arrows : Fun K "_are_arrows" "_are_arrows" s_are_arrows a__are_arrows d__are_arrows
  b__are_arrows : Binds K d__are_arrows ["places", "arrows"] []
  m__are_arrows : mg "_are_arrows" = some (.ref a__are_arrows)
  F_Web__init_ : Fun K "__init__" "Web.__init__" sWeb__init_ a_Web__init_ d_Web__init_
  b_Web__init_ : Binds K d_Web__init_ ["self", "places", "arrows"] []
  F_Web_places : Fun K "places" "Web.places" sWeb_places a_Web_places d_Web_places
  b_Web_places : Binds K d_Web_places ["self"] []
  F_Web_arrows : Fun K "arrows" "Web.arrows" sWeb_arrows a_Web_arrows d_Web_arrows
  b_Web_arrows : Binds K d_Web_arrows ["self"] []
  F_Web__eq_ : Fun K "__eq__" "Web.__eq__" sWeb__eq_ a_Web__eq_ d_Web__eq_
  b_Web__eq_ : Binds K d_Web__eq_ ["self", "other"] []
  F_check_web : Fun K "check_web" "check_web" scheck_web a_check_web d_check_web
  b_check_web : Binds K d_check_web ["web"] []
  m_check_web : mg "check_web" = some (.ref a_check_web)
  F_turned_web : Fun K "turned_web" "turned_web" sturned_web a_turned_web d_turned_web
  b_turned_web : Binds K d_turned_web ["web"] []
  m_turned_web : mg "turned_web" = some (.ref a_turned_web)
  F_is_row : Fun K "is_row" "is_row" sis_row a_is_row d_is_row
  b_is_row : Binds K d_is_row ["web", "value"] []
  m_is_row : mg "is_row" = some (.ref a_is_row)
  F_check_row : Fun K "check_row" "check_row" scheck_row a_check_row d_check_row
  b_check_row : Binds K d_check_row ["web", "row"] []
  m_check_row : mg "check_row" = some (.ref a_check_row)
  F_form : Fun K "form" "form" sform a_form d_form
  b_form : Binds K d_form ["web", "row", "other"] []
  m_form : mg "form" = some (.ref a_form)
  F_rows_below : Fun K "rows_below" "rows_below" srows_below a_rows_below d_rows_below
  b_rows_below : Binds K d_rows_below ["web", "row"] []
  m_rows_below : mg "rows_below" = some (.ref a_rows_below)
  F__law_pot : Fun K "_law_pot" "_law_pot" s_law_pot a__law_pot d__law_pot
  b__law_pot : Binds K d__law_pot ["script", "k"] []
  m__law_pot : mg "_law_pot" = some (.ref a__law_pot)
  F__law_draw : Fun K "_law_draw" "_law_draw" s_law_draw a__law_draw d__law_draw
  b__law_draw : Binds K d__law_draw ["pot", "sides"] []
  m__law_draw : mg "_law_draw" = some (.ref a__law_draw)
  F__law_order : Fun K "_law_order" "_law_order" s_law_order a__law_order d__law_order
  b__law_order : Binds K d__law_order ["pot", "many"] []
  m__law_order : mg "_law_order" = some (.ref a__law_order)
  F__law_web : Fun K "_law_web" "_law_web" s_law_web a__law_web d__law_web
  b__law_web : Binds K d__law_web ["pot", "least", "most", "arrows"] []
  m__law_web : mg "_law_web" = some (.ref a__law_web)
  F__law_row : Fun K "_law_row" "_law_row" s_law_row a__law_row d__law_row
  b__law_row : Binds K d__law_row ["pot", "places", "most"] []
  m__law_row : mg "_law_row" = some (.ref a__law_row)
  F__law_below : Fun K "_law_below" "_law_below" s_law_below a__law_below d__law_below
  b__law_below : Binds K d__law_below ["row"] []
  m__law_below : mg "_law_below" = some (.ref a__law_below)
  F__law_other : Fun K "_law_other" "_law_other" s_law_other a__law_other d__law_other
  b__law_other : Binds K d__law_other ["pot", "places", "arrows"] []
  m__law_other : mg "_law_other" = some (.ref a__law_other)
  F__law_parts_right : Fun K "_law_parts_right" "_law_parts_right" s_law_parts_right a__law_parts_right d__law_parts_right
  b__law_parts_right : Binds K d__law_parts_right ["web", "row", "other"] []
  m__law_parts_right : mg "_law_parts_right" = some (.ref a__law_parts_right)
  F__law_alike_right : Fun K "_law_alike_right" "_law_alike_right" s_law_alike_right a__law_alike_right d__law_alike_right
  b__law_alike_right : Binds K d__law_alike_right ["web", "places", "arrows", "told"] []
  m__law_alike_right : mg "_law_alike_right" = some (.ref a__law_alike_right)
  F__law_right : Fun K "_law_right" "_law_right" s_law_right a__law_right d__law_right
  b__law_right : Binds K d__law_right ["pot"] []
  m__law_right : mg "_law_right" = some (.ref a__law_right)
  F_law : Fun K "law" "law" slaw a_law d_law
  b_law : Binds K d_law ["script"] []
  m_law : mg "law" = some (.ref a_law)
  m_Web : mg "Web" = some (.ref C_Web)
  cl_Web : Cls K C_Web
  mk_Web : Mk K C_Web a_Web__init_
  hc1_Web : PySem.W.findIn K (.ref C_Web) "__class__" = some (some (.builtin "object.__class__"))
  hc4_Web : PySem.W.mroIn K C_Web (.type "object") = some true
  is_Web : PySem.W.isClsIn K C_Web = true
  ty_Web : PySem.W.typeIn K (.ref C_Web) = some (.type "type")
  nf_Web_places : NoAttr K C_Web "_places"
  nf_Web_arrows : NoAttr K C_Web "_arrows"
  p_Web_places : PropOf K C_Web "places" q_Web_places a_Web_places
  me_Web_arrows : Meth K C_Web "arrows" a_Web_arrows
  eq_Web : PySem.W.findIn K (.ref C_Web) "__eq__" = some (some (.ref a_Web__eq_))
  fe_Web : PySem.W.isFn K (.ref a_Web__eq_) = true
  n_len : mg "len" = none
  n_isinstance : mg "isinstance" = none
  n_int : mg "int" = none
  n_bool : mg "bool" = none
  n_list : mg "list" = none
  n_tuple : mg "tuple" = none
  n_all : mg "all" = none
  n_sum : mg "sum" = none
  n_range : mg "range" = none
  n_zip : mg "zip" = none
  n_abs : mg "abs" = none
  n_max : mg "max" = none
  n_divmod : mg "divmod" = none
  t_MOST_PLACES : Tok
  g_MOST_PLACES : mg "MOST_PLACES" = some (.int 13 t_MOST_PLACES)
  t_MOST_ARROWS : Tok
  g_MOST_ARROWS : mg "MOST_ARROWS" = some (.int 12 t_MOST_ARROWS)
  t_MOST_ROW : Tok
  g_MOST_ROW : mg "MOST_ROW" = some (.int 6 t_MOST_ROW)
  t_MOST_SUM : Tok
  g_MOST_SUM : mg "MOST_SUM" = some (.int 24 t_MOST_SUM)
  t_MOST_BELOW : Tok
  g_MOST_BELOW : mg "MOST_BELOW" = some (.int 400 t_MOST_BELOW)
  kb_rows_below_row_web : KBinds K d_rows_below ["web", "row"] ["row", "web"] KBw KBv
end W18

set_option maxRecDepth 100000
set_option maxHeartbeats 4000000
namespace W18
open PySem L2 SB
local macro_rules | `(tactic| walk_at "rd") => `(tactic| first | simp only [rd_var, rd_c, rd_seq, rd_next, rd_ret, rd_retN, rd_drop, rd_asg, rd_op, rd_un, rd_call, rd_callK0, rd_cons, rd_nil, rd_cb, rd_test, rd_b, rd_andV, rd_orV, rd_notV, rd_and, rd_or, rd_not, rd_if, rd_ifS, rd_tup, rd_lst, rd_step, rd_wstep, rd_revL, rNotB_bl, rd_lcL, rd_lc2, rd_lcZ, rd_lcR, rd_forL, rd_forZ, rd_forR, rd_make, rd_meth, rd_sfld, rd_bm, rd_prop, rd_yes, rd_par, rd_name, wipe, rI0_int, rI_int, rEq_int, rNe_int, rEq_bl, rNe_bl, L2.start, List.map_cons, List.map_nil, List.length_cons, List.length_nil, Nat.zero_add, Nat.reduceAdd, Nat.reduceSub, List.replicate, List.getElem?_cons_zero, List.getElem?_cons_succ, List.set_cons_zero, List.set_cons_succ, Option.some.injEq, exists_eq_left', exists_eq_left, exists_and_left, V.int.injEq, V.bl.injEq, V.ref.injEq, List.append_nil, List.cons_append, List.nil_append, List.cons.injEq, and_true, true_and, if_true, if_false, Bool.not_true, Bool.not_false, Bool.false_eq_true, ↓reduceIte, reduceCtorEq, decide_true, decide_false, false_and, exists_false, or_false, exists_const] | skip)
section
variable {P : Program} {w : World} {K : PySem.W.Frag} {mg : Str → Option Value} {base : Heap}
theorem ok_is_integer (T : Txt K mg) : FnOk P w K mg base CX0 1 T.a_is_integer T.d_is_integer ["value"] sp_is_integer := by
  refine T.F_is_integer.ok scis_integer (fun vs H Q E h => ?_) (fun cdv A outer s H vs Q E hr h => ?_)
  · obtain ⟨n, rfl, _⟩ := h; rfl
  · obtain ⟨n, rfl, k⟩ := h
    refine ⟨_, (pss_one (ps_ret (pe_and (pe_callB call_isi (by rfl) T.n_isinstance (by decide +kernel) (pa_cons (pv 0) (pa_cons (pe_bltn (v := .ty "int") rfl T.n_int (by decide +kernel) rfl) pa_nil))) (pe_one (pe_not (pe_callB call_isi (by rfl) T.n_isinstance (by decide +kernel) (pa_cons (pv 0) (pa_cons (pe_bltn (v := .ty "bool") rfl T.n_bool (by decide +kernel) rfl) pa_nil)))))))), ?_⟩
    walk_at "rd"
    refine isi_ty (.base (.int n)) (b := true) (by decide +kernel) ?_
    walk_at "rd"
    refine isi_ty (.base (.int n)) (b := false) (by decide +kernel) ?_
    walk_at "rd"
    exact k
theorem ok_is_count (T : Txt K mg) : FnOk P w K mg base CX0 2 T.a_is_count T.d_is_count ["value"] sp_is_count := by
  refine T.F_is_count.ok scis_count (fun vs H Q E h => ?_) (fun cdv A outer s H vs Q E hr h => ?_)
  · obtain ⟨n, rfl, _⟩ := h; rfl
  · obtain ⟨n, rfl, k⟩ := h
    refine ⟨_, (pss_one (ps_ret (pe_and (pe_call (ok_is_integer T) (hr.mono (by decide)) rfl T.m_is_integer T.F_is_integer.kp T.b_is_integer .nil pass0 (pa_cons (pv 0) pa_nil)) (pe_one (pe_cmpR op_ge (pv 0) pe_int (nomark _)))))), ?_⟩
    walk_at "rd"
    refine ⟨n, rfl, ?_⟩
    walk_at "rd"
    exact k
theorem ok__is_arrow (T : Txt K mg) : FnOk P w K mg base CX0 3 T.a__is_arrow T.d__is_arrow ["places", "arrow"] sp__is_arrow := by
  refine T.F__is_arrow.ok sc_is_arrow (fun vs H Q E h => ?_) (fun cdv A outer s H vs Q E hr h => ?_)
  · obtain ⟨n, v, p, rfl, _⟩ := h; rfl
  · obtain ⟨n, v, p, rfl, ⟨t, rfl, ht⟩, ok, k⟩ := h
    refine ⟨_, (pss_cons (ps_if (PW.pt (pw_or (pt_not (pt_val (pe_callB call_isi (by rfl) T.n_isinstance (by decide +kernel) (pa_cons (pv 1) (pa_cons (pe_bltn (v := .ty "tuple") rfl T.n_tuple (by decide +kernel) rfl) pa_nil))))) (pw_or1 (pt_cmpR op_ne (pe_callB call_len_seq (by rfl) T.n_len (by decide +kernel) (pa_cons (pv 1) pa_nil)) pe_int (nomark _))))) (pss_one (ps_ret pe_bl)) pss_nil)
        (pss_one (ps_ret (pe_and (pe_callB (cr_all rfl) (by rfl) T.n_all (by decide +kernel) (pa_cons (pe_lc (own := [("end", 2)]) rfl sc_is_arrow.nd (pi_tup (pv 1)) (blkOk_by (own := [("end", 2)]) (N := N_is_arrow) (sc := defScope s_is_arrow) (by decide +kernel)) (fun _ _ _ _ _ => (pg_name (i := 2) sc_is_arrow.nd rfl (Or.inl rfl) (Or.inr rfl))) (fun _ _ _ _ _ => pts_nil) (fun _ _ _ _ _ => (pe_and (pe_call (ok_is_count T) (hr.mono (by decide)) rfl T.m_is_count T.F_is_count.kp T.b_is_count .nil pass0 (pa_cons (pv 2) pa_nil)) (pe_one (pe_cmpR op_lt (pv 2) (pv 0) (nomark _)))))) pa_nil)) (pe_one (pe_cmpR op_ne (pe_ix ix_tup (pv 1) pe_int (fun _ _ => rfl)) (pe_ix ix_tup (pv 1) pe_int (fun _ _ => rfl)) (nomark _))))))), ?_⟩
    obtain ⟨o1, o2, o3, o4, o5⟩ := ok
    walk_at "rd"
    refine isi_ty (.base (.tup ht)) (b := true) (by decide +kernel) ?_
    walk_at "rd"
    refine ⟨_, .inr (sqT ht), ?_⟩
    walk_at "rd"
    rw [show (decide ((((2 : Nat) : Int)) = 2)) = true from rfl]
    walk_at "rd"
    refine ⟨_, rfl, t, rfl, ⟨_, sqT ht⟩, fun D hD => lcW walk_tup hD (fun i acc _ => acc = List.replicate i (V.bl true)) (fun H' e => sqT (e _ _ ht)) rfl ?_ ?_⟩
    · intro i x acc H1 H2 hi hacc hl e1 hp y
      obtain ⟨rfl, hx⟩ := y
      have hx' : ∃ z : Int, x = .int z ∧ 0 ≤ z ∧ z < n := by
        match i, hx with
        | 0, hx => exact ⟨p.1, (Option.some.inj hx).symm, o1, o2⟩
        | 1, hx => exact ⟨p.2, (Option.some.inj hx).symm, o3, o4⟩
      obtain ⟨z, rfl, hz0, hz1⟩ := hx'
      walk_at "rd"
      refine ⟨z, rfl, ?_⟩
      rw [decide_eq_true hz0]
      walk_at "rd"
      rw [decide_eq_true hz1]
      exact cw_put hacc hl (by simp at hi; omega) e1 (Evl.Ex.refl _) (by rw [hp]; exact List.replicate_succ'.symm)
    · intro acc H1 hacc hl e1 hp
      have e2 : Ex H H1 := e1.trans dr_ex
      walk_at "rd"
      refine allR (List.replicate 2 true) (sqL hacc) (by rw [hp]; rfl) ?_
      rw [show (List.replicate 2 true).all id = true from rfl]
      walk_at "rd"
      refine ixT (sqT (e2 _ _ ht)) (at_of (j := 0) rfl rfl) ?_
      refine ixT (sqT (e2 _ _ ht)) (at_of (j := 1) rfl rfl) ?_
      walk_at "rd"
      rw [decide_eq_false o5]
      exact k _ e2
theorem ok__have_ring (T : Txt K mg) : FnOk P w K mg base CX0 1 T.a__have_ring T.d__have_ring ["arrows"] sp__have_ring := by
  refine T.F__have_ring.ok sc_have_ring (fun vs H Q E h => ?_) (fun cdv A outer s H vs Q E hr h => ?_)
  · obtain ⟨a, xs, ar, rfl, _⟩ := h; rfl
  · obtain ⟨a, xs, ar, rfl, sq, harr, ⟨rk, hrk⟩, hlen, k⟩ := h
    refine ⟨_, (pss_cons (ps_set (i := 1) sc_have_ring.nd rfl (Or.inl rfl) (pe_callTy call_list_of (by rfl) T.n_list (by decide +kernel) (pa_cons (pv 0) pa_nil)))
        (pss_cons (ps_while PassesOwn.never (pt_truth (pv 1) (by intro _; rfl)) (pss_cons (ps_set (i := 2) sc_have_ring.nd rfl (Or.inr rfl) (pe_lc (own := [("_", 4), ("head", 5)]) rfl sc_have_ring.nd (pi_list (pv 1)) (blkOk_by (own := [("_", 4), ("head", 5)]) (N := N_have_ring) (sc := defScope s_have_ring) (by decide +kernel)) (fun _ _ _ _ _ => (show PG _ _ (gTup K 2 (gCons (gName 4) (gCons (gName 5) gNil))) from pg_tup rfl (pgs_cons (pg_name (i := 4) sc_have_ring.nd rfl (Or.inl rfl) (Or.inr rfl)) (pgs_cons (pg_name (i := 5) sc_have_ring.nd rfl (Or.inl rfl) (Or.inr rfl)) pgs_nil)))) (fun _ _ _ _ _ => pts_nil) (fun _ _ _ _ _ => (pv 5))))
        (pss_cons (ps_setLc (i := 3) (own := [("tail", 6), ("head", 5)]) rfl sc_have_ring.nd rfl rfl (sw_true rfl rfl rfl (by decide +kernel)) (pi_list (pv 1)) (blkOk_by (own := [("tail", 6), ("head", 5)]) (N := N_have_ring) (sc := defScope s_have_ring) (by decide +kernel)) (fun _ _ _ _ _ => (show PG _ _ (gTup K 2 (gCons (gName 6) (gCons (gName 5) gNil))) from pg_tup rfl (pgs_cons (pg_name (i := 6) sc_have_ring.nd rfl (Or.inl rfl) (Or.inr rfl)) (pgs_cons (pg_name (i := 5) sc_have_ring.nd rfl (Or.inl rfl) (Or.inr rfl)) pgs_nil)))) (fun _ _ _ _ _ => (pts_one (pt_cmpR (show OpR _ _ (rIn K false) from op_in_seq) (pv 6) (pv 2) (by rfl)))) (fun _ _ _ _ _ => (pe_tup (pa_cons (pv 6) (pa_cons (pv 5) pa_nil)))))
        (pss_cons (ps_if (pt_cmpR op_eq (pe_callB call_len_seq (by rfl) T.n_len (by decide +kernel) (pa_cons (pv 3) pa_nil)) (pe_callB call_len_seq (by rfl) T.n_len (by decide +kernel) (pa_cons (pv 1) pa_nil)) (nomark _)) (pss_one (ps_ret pe_bl)) pss_nil)
        (pss_one (ps_set (i := 1) sc_have_ring.nd rfl (Or.inl rfl) (pv 3)))))))
        (pss_one (ps_ret pe_bl)))), ?_⟩
    walk_at "rd"
    refine ⟨_, sq.or, fun l hl => ?_⟩
    walk_at "rd"
    refine ⟨WRing H a rk, ⟨_, l, xs, ar, _, _, _, _, _, rfl, Evl.Ex.new hl, upd_same, Ar.mono (Evl.Ex.new hl) harr, hrk, hlen, rfl⟩, ?_⟩
    rintro m σ H2 ⟨l2, xs2, ar2, v2, v3, v4, v5, v6, rfl, e2, hl2, ha2, hrk2, hlen2, rfl⟩
    walk_at "rd"
    refine ⟨!xs2.isEmpty, .inl ⟨xs2, sqL hl2, rfl⟩, ?_⟩
    have hxl := p2_len ha2
    by_cases hx : ar2 = []
    · have hx2 : xs2 = [] := by rw [hx] at hxl; exact List.length_eq_zero_iff.mp hxl
      rw [hx2]
      exact k H2 e2
    · have hx2 : (!xs2.isEmpty) = true := by
        cases xs2 with
        | nil => exact absurd (List.length_eq_zero_iff.mp hxl.symm) hx
        | cons _ _ => rfl
      rw [hx2]
      walk_at "rd"
      refine ⟨fun σ' H' => ∃ m', m' < ar2.length ∧ WRing H a rk m' σ' H', fun _ _ h => h, ?_⟩
      -- reached
      refine lcA hl2 (fun i acc _ => acc = ((ar2.take i).map (·.2)).map V.int) rfl ?_ ?_
      · intro D i x acc H3 hi hx hD hacc hl e1 hp
        obtain ⟨p, hp2, pr⟩ := p2_get ha2 hx
        refine gPr (pr.mono (e1.trans dr_ex)) ?_
        walk_at "rd"
        refine cw_put hacc hl (by omega) e1 (Evl.Ex.refl _) ?_
        rw [hp, List.take_add_one, hp2]
        simp
      · intro D acc H3 hD hacc hl e1 hp
        have e3 : Ex H2 H3 := e1.trans dr_ex
        walk_at "rd"
        have hp' : acc = (ar2.map (·.2)).map V.int := by rw [hp, hxl, List.take_length]
        -- inner
        refine lcA (e3 _ _ hl2) (fun i acc B => Ar B acc ((ar2.take i).filter fun p => decide (p.1 ∈ ar2.map (·.2)))) .nil ?_ ?_
        · intro D2 i x acc2 H4 hi hx hD2 hacc2 hl2' e4 hp2
          obtain ⟨p, hpa, pr⟩ := p2_get ha2 hx
          have e5 : Ex H3 H4 := e4.trans dr_ex
          refine gPr (pr.mono (e3.trans e5)) ?_
          walk_at "rd"
          refine ⟨D, _, rfl, .inl (sqL (e5 _ _ (hacc.trans (by rw [hp'])))), rfl, flat_ints _, ?_⟩
          rw [inV_int]
          walk_at "rd"
          have ht : (ar2.take (i + 1)).filter (fun p => decide (p.1 ∈ ar2.map (·.2))) = (ar2.take i).filter (fun p => decide (p.1 ∈ ar2.map (·.2))) ++ (if p.1 ∈ ar2.map (·.2) then [p] else []) := by
            rw [List.take_add_one, hpa, List.filter_append]
            by_cases c : p.1 ∈ ar2.map (·.2) <;> simp [c]
          by_cases c : p.1 ∈ ar2.map (·.2)
          · rw [if_pos (decide_eq_true c)]
            refine ⟨Evl.sz_of (by simp), fun q hq => ?_⟩
            refine cw_put hacc2 hl2' (by omega) e4 (Evl.Ex.new hq) ?_
            rw [ht, if_pos c]
            refine p2_snoc (Ar.mono (dr_new hq) hp2) ⟨q, rfl, dr_at (fun z => ?_) upd_same⟩
            rw [z, hacc2] at hq; cases hq
          · rw [if_neg (by simpa using c)]
            refine cw_skip hacc2 hl2' e4 (Evl.Ex.refl _) ?_
            rw [ht, if_neg c, List.append_nil]
            exact hp2
        · intro D2 acc2 H4 hD2 hacc2 hl2' e4 hp2
          have e5 : Ex H3 H4 := e4.trans dr_ex
          walk_at "rd"
          rw [hxl, List.take_length] at hp2
          have hless := inner_less hx hrk2
          have hl4 := p2_len hp2
          refine ⟨_, .inl (sqL hacc2), ?_⟩
          refine ⟨_, .inl (sqL (e5 _ _ (e3 _ _ hl2))), ?_⟩
          rw [decide_eq_false (show ¬ ((acc2.length : Int) = (xs2.length : Int)) by omega)]
          walk_at "rd"
          exact ⟨_, hless, D2, acc2, _, _, _, _, _, _, rfl, e2.trans (e3.trans e5), hacc2, Ar.mono dr_ex hp2, fun p h => hrk2 p ((List.mem_filter.mp h).1), by omega, rfl⟩
theorem ok__are_arrows (T : Txt K mg) : FnOk P w K mg base CX0 4 T.a__are_arrows T.d__are_arrows ["places", "arrows"] sp__are_arrows := by
  refine T.F__are_arrows.ok sc_are_arrows (fun vs H Q E h => ?_) (fun cdv A outer s H vs Q E hr h => ?_)
  · obtain ⟨n, a, xs, ar, rfl, _⟩ := h; rfl
  · obtain ⟨n, a, xs, ar, rfl, sq, harr, G, k⟩ := h
    refine ⟨_, (pss_cons (ps_if (PW.pt (pw_or (pt_not (pt_val (pe_callB call_isiT (by rfl) T.n_isinstance (by decide +kernel) (pa_cons (pv 1) (pa_cons (pe_tup (pa_cons (pe_bltn (v := .ty "list") rfl T.n_list (by decide +kernel) rfl) (pa_cons (pe_bltn (v := .ty "tuple") rfl T.n_tuple (by decide +kernel) rfl) pa_nil))) pa_nil))))) (pw_or1 (pt_cmpR op_gt (pe_callB call_len_seq (by rfl) T.n_len (by decide +kernel) (pa_cons (pv 1) pa_nil)) (pe_glob (v := .int _) rfl T.g_MOST_ARROWS ⟨_, rfl⟩) (nomark _))))) (pss_one (ps_ret pe_bl)) pss_nil)
        (pss_one (ps_ret (pe_and (pe_callB (cr_all rfl) (by rfl) T.n_all (by decide +kernel) (pa_cons (pe_lc (own := [("arrow", 2)]) rfl sc_are_arrows.nd (SB.pi_seq (pv 1)) (blkOk_by (own := [("arrow", 2)]) (N := N_are_arrows) (sc := defScope s_are_arrows) (by decide +kernel)) (fun _ _ _ _ _ => (pg_name (i := 2) sc_are_arrows.nd rfl (Or.inl rfl) (Or.inr rfl))) (fun _ _ _ _ _ => pts_nil) (fun _ _ _ _ _ => (pe_call (ok__is_arrow T) (hr.mono (by decide)) rfl T.m__is_arrow T.F__is_arrow.kp T.b__is_arrow .nil pass0 (pa_cons (pv 0) (pa_cons (pv 2) pa_nil))))) pa_nil)) (pe_one (pe_not (pe_call (ok__have_ring T) (hr.mono (by decide)) rfl T.m__have_ring T.F__have_ring.kp T.b__have_ring .nil pass0 (pa_cons (pv 1) pa_nil)))))))), ?_⟩
    walk_at "rd"
    refine ⟨Evl.sz_of (by simp), fun tp htp => ?_⟩
    have e0 : Ex H (upd H tp (.tup [.ty "list", .ty "tuple"])) := Evl.Ex.new htp
    have hxl := p2_len harr
    have hlen := G.len
    have hty : ∃ T1, TyX K (upd H tp (.tup [.ty "list", .ty "tuple"])) (.ref a) (.type T1) ∧ PySem.W.kitAny K (.type T1) (["list", "tuple"].map Value.type) = some true := by
      rcases sq.mono e0 with h | h
      · exact ⟨"list", .base (.lst h), kitAny_cons (b := true) (kit_ty (by decide +kernel)) (fun z => by cases z) (fun _ => rfl)⟩
      · exact ⟨"tuple", .base (.tup h), kitAny_cons (b := false) (kit_ty (by decide +kernel)) (fun _ => kitAny_cons (b := true) (kit_ty (by decide +kernel)) (fun z => by cases z) (fun _ => rfl)) (fun z => by cases z)⟩
    obtain ⟨T1, hty1, hty2⟩ := hty
    refine isiT_ty (Ts := ["list", "tuple"]) upd_same hty1 hty2 ?_
    walk_at "rd"
    refine ⟨_, (sq.mono e0).or, ?_⟩
    rw [decide_eq_false (show ¬ (12 : Int) < (xs.length : Int) by omega)]
    walk_at "rd"
    refine lcSeq (sq.mono e0) rfl (fun i acc _ => acc = List.replicate i (V.bl true)) rfl ?_ ?_
    · intro D i x acc H3 hi hx hD hacc hl e1 hp
      obtain ⟨p, hpa, pr⟩ := p2_get harr hx
      walk_at "rd"
      refine ⟨n, x, p, rfl, pr.mono (e0.trans (e1.trans dr_ex)), G.inn p (List.mem_of_getElem? hpa), fun H4 e4 => ?_⟩
      exact cw_put hacc hl (by omega) e1 e4 (by rw [hp]; exact List.replicate_succ'.symm)
    · intro D acc H3 hD hacc hl e1 hp
      have e3 : Ex H H3 := e0.trans (e1.trans dr_ex)
      walk_at "rd"
      refine allR (List.replicate xs.length true) (sqL hacc) (by rw [hp]; simp) ?_
      rw [show (List.replicate xs.length true).all id = true by simp]
      walk_at "rd"
      refine ⟨a, xs, ar, rfl, sq.mono e3, harr.mono e3, G.ac, G.len, fun H4 e4 => ?_⟩
      walk_at "rd"
      exact k H4 (e3.trans e4)
theorem ok_Web__init_ (T : Txt K mg) : FnOk P w K mg base CX0 5 T.a_Web__init_ T.d_Web__init_ ["self", "places", "arrows"] (sp_Web__init_ T.C_Web) := by
  refine T.F_Web__init_.ok scWeb__init_ (fun vs H Q E h => ?_) (fun cdv A outer s H vs Q E hr h => ?_)
  · obtain ⟨p, dx, n, a, xs, ar, rfl, _⟩ := h; rfl
  · obtain ⟨p, dx, n, a, xs, ar, rfl, hp, sq, harr, G, k⟩ := h
    refine ⟨_, (pss_cons (ps_if (PW.pt (pw_or (pt_not (pt_val (pe_call (ok_is_count T) (hr.mono (by decide)) rfl T.m_is_count T.F_is_count.kp T.b_is_count .nil pass0 (pa_cons (pv 1) pa_nil)))) (pw_or (pt_cmpR op_lt (pv 1) pe_int (nomark _)) (pw_or1 (pt_cmpR op_gt (pv 1) (pe_glob (v := .int _) rfl T.g_MOST_PLACES ⟨_, rfl⟩) (nomark _)))))) (pss_one ps_never) pss_nil)
        (pss_cons (ps_if (pt_not (pt_val (pe_call (ok__are_arrows T) (hr.mono (by decide)) rfl T.m__are_arrows T.F__are_arrows.kp T.b__are_arrows .nil pass0 (pa_cons (pv 1) (pa_cons (pv 2) pa_nil))))) (pss_one ps_never) pss_nil)
        (pss_cons (ps_fld (pv 0) (pv 1) rfl)
        (pss_one (ps_fld (pv 0) (pe_lc (own := [("tail", 3), ("head", 4)]) rfl scWeb__init_.nd (SB.pi_seq (pv 2)) (blkOk_by (own := [("tail", 3), ("head", 4)]) (N := NWeb__init_) (sc := defScope sWeb__init_) (by decide +kernel)) (fun _ _ _ _ _ => (show PG _ _ (gTup K 2 (gCons (gName 3) (gCons (gName 4) gNil))) from pg_tup rfl (pgs_cons (pg_name (i := 3) scWeb__init_.nd rfl (Or.inl rfl) (Or.inr rfl)) (pgs_cons (pg_name (i := 4) scWeb__init_.nd rfl (Or.inl rfl) (Or.inr rfl)) pgs_nil)))) (fun _ _ _ _ _ => pts_nil) (fun _ _ _ _ _ => (pe_tup (pa_cons (pv 3) (pa_cons (pv 4) pa_nil))))) rfl))))), ?_⟩
    have g1 := G.lo
    have g2 := G.hi
    have hxl := p2_len harr
    have hlen := G.len
    walk_at "rd"
    refine ⟨n, rfl, ?_⟩
    rw [decide_eq_true (show 0 ≤ n by omega), decide_eq_false (show ¬ n < 1 by omega), decide_eq_false (show ¬ (13 : Int) < n by omega)]
    walk_at "rd"
    refine ⟨n, a, xs, ar, rfl, sq, harr, G, fun H1 e1 => ?_⟩
    walk_at "rd"
    -- self._places = places
    refine ⟨T.C_Web, dx, [], e1 _ _ hp, T.cl_Web, T.nf_Web_places, (by show 0 < 1000; decide), ?_⟩
    have hpa : p ≠ a := fun z => by
      rw [z] at hp
      rcases sq with h | h <;> rw [h] at hp <;> cases hp
    have sq2 : Sq2 (upd H1 p (.ins T.C_Web dx (putF "_places" (.int n) []))) a xs := by
      rcases sq with h | h
      · exact .inl (by rw [upd_ne hpa.symm]; exact e1 _ _ h)
      · exact .inr (by rw [upd_ne hpa.symm]; exact e1 _ _ h)
    have e2 : ∀ b o, H b = some o → b ≠ p → (upd H1 p (.ins T.C_Web dx (putF "_places" (.int n) []))) b = some o := fun b o h hb => by rw [upd_ne hb]; exact e1 _ _ h
    have harr2 : Ar (upd H1 p (.ins T.C_Web dx (putF "_places" (.int n) []))) xs ar := p2_mono (fun v pr h => by
      obtain ⟨t, ev, ht⟩ := h
      refine ⟨t, ev, e2 _ _ ht fun z => ?_⟩
      rw [z, hp] at ht; cases ht) harr
    -- self._arrows = [..]
    walk_at "rd"
    refine lcSeq (i := 2) sq2 rfl (fun i acc B => Ar (nw H B) acc (ar.take i)) .nil ?_ ?_
    · intro D i x acc H3 hi hx hD hacc hl e3 hpp
      obtain ⟨pr, hpr, ipr⟩ := p2_get harr2 hx
      refine gPr (ipr.mono (e3.trans dr_ex)) ?_
      walk_at "rd"
      refine ⟨Evl.sz_of (by simp), fun q hq => ?_⟩
      refine cw_put hacc hl (by omega) e3 (Evl.Ex.new hq) ?_
      rw [List.take_add_one, hpr]
      have hqD : q ≠ D := fun z => by rw [z, hacc] at hq; cases hq
      have hqH : H q = none := by
        cases hh : H q with
        | none => rfl
        | some o =>
          by_cases hqp : q = p
          · have := dr_ex _ _ (e3 p _ upd_same)
            rw [← hqp, hq] at this; cases this
          · have := dr_ex _ _ (e3 q _ (e2 q o hh hqp))
            rw [hq] at this; cases this
      exact p2_snoc (Ar.mono (nw_mono (Evl.Ex.refl _) (dr_new hq)) hpp) ⟨q, rfl, nw_at hqH (dr_at hqD upd_same)⟩
    · intro D acc H3 hD hacc hl e3 hpp
      walk_at "rd"
      rw [hxl, List.take_length] at hpp
      have h3p : H3 p = some (.ins T.C_Web dx (putF "_places" (.int n) [])) := dr_ex _ _ (e3 p _ upd_same)
      have hDp : D ≠ p := fun z => by rw [← z, hacc] at h3p; cases h3p
      refine ⟨T.C_Web, dx, _, h3p, T.cl_Web, T.nf_Web_arrows, (by show 1 < 1000; decide), ?_⟩
      have hDH : H D = none := by
        cases hh : H D with
        | none => rfl
        | some o => rw [e2 D o hh hDp] at hD; cases hD
      refine k _ D acc hDH (fun b o hb hbp => ?_) upd_same (by rw [upd_ne hDp]; exact hacc) (p2_mono (fun v pr h => ?_) hpp)
      · rw [upd_ne hbp]
        exact dr_ex _ _ (e3 _ _ (e2 b o hb hbp))
      · obtain ⟨t, ev, ht⟩ := h
        obtain ⟨ht1, ht2⟩ := nw_of ht
        refine ⟨t, ev, nw_at ht1 ?_⟩
        rw [upd_ne (fun z => by rw [z, hp] at ht1; cases ht1)]
        exact (dr_of ht2).2
theorem ok_Web_places (T : Txt K mg) : FnOk P w K mg base CX0 1 T.a_Web_places T.d_Web_places ["self"] (sp_Web_places T.C_Web) := by
  refine T.F_Web_places.ok scWeb_places (fun vs H Q E h => ?_) (fun cdv A outer s H vs Q E hr h => ?_)
  · obtain ⟨p, n, ar, rfl, _⟩ := h; rfl
  · obtain ⟨p, n, ar, rfl, ⟨dx, q, xs, h1, h2, h3⟩, k⟩ := h
    refine ⟨_, (pss_one (ps_ret (pe_fld (pv 0) rfl))), ?_⟩
    walk_at "rd"
    exact fldV rfl h1 T.cl_Web T.nf_Web_places web_pl k
theorem ok_Web_arrows (T : Txt K mg) : FnOk P w K mg base CX0 1 T.a_Web_arrows T.d_Web_arrows ["self"] (sp_Web_arrows T.C_Web) := by
  refine T.F_Web_arrows.ok scWeb_arrows (fun vs H Q E h => ?_) (fun cdv A outer s H vs Q E hr h => ?_)
  · obtain ⟨p, n, ar, rfl, _⟩ := h; rfl
  · obtain ⟨p, n, ar, rfl, ⟨dx, q, xs, h1, h2, h3⟩, k⟩ := h
    refine ⟨_, (pss_one (ps_ret (pe_callTy call_list_of (by rfl) T.n_list (by decide +kernel) (pa_cons (pe_fld (pv 0) rfl) pa_nil)))), ?_⟩
    walk_at "rd"
    refine fldV rfl h1 T.cl_Web T.nf_Web_arrows web_ar ?_
    walk_at "rd"
    exact ⟨xs, .inl (sqL h2), fun l hl => k l xs hl h3⟩
theorem ok_Web__eq_ (T : Txt K mg) : FnOk P w K mg base CX0 1 T.a_Web__eq_ T.d_Web__eq_ ["self", "other"] (sp_Web__eq_ T.C_Web) := by
  refine T.F_Web__eq_.ok scWeb__eq_ (fun vs H Q E h => ?_) (fun cdv A outer s H vs Q E hr h => ?_)
  · obtain ⟨p, n, ar, v, rfl, _⟩ := h; rfl
  · obtain ⟨p, n, ar, v, rfl, ⟨dx, q, xs, h1, h2, h3⟩, k⟩ := h
    refine ⟨_, (pss_one (ps_ret (pe_and (pe_callB call_isi (by rfl) T.n_isinstance (by decide +kernel) (pa_cons (pv 1) (pa_cons (pe_glob (v := .ref _) rfl T.m_Web rfl) pa_nil))) (pe_and (pe_cmpR op_eq (pe_fld (pv 0) rfl) (pe_fld (pv 1) rfl) (nomark _)) (pe_one (pe_cmpR (op_eqD hr.units) (pe_fld (pv 0) rfl) (pe_fld (pv 1) rfl) (nomark _))))))), ?_⟩
    walk_at "rd"
    rcases k with ⟨p2, n2, ar2, rfl, ⟨dx2, q2, xs2, g1, g2, g3⟩, k⟩ | ⟨hv, k⟩
    · refine isi_own (ty_ins g1 T.cl_Web T.hc1_Web T.hc4_Web) kit_self ?_
      walk_at "rd"
      refine fldV rfl h1 T.cl_Web T.nf_Web_places web_pl ?_
      refine fldV rfl g1 T.cl_Web T.nf_Web_places web_pl ?_
      walk_at "rd"
      by_cases c : n = n2
      · rw [decide_eq_true c]
        walk_at "rd"
        refine fldV rfl h1 T.cl_Web T.nf_Web_arrows web_ar ?_
        refine fldV rfl g1 T.cl_Web T.nf_Web_arrows web_ar ?_
        refine eqD (dp_prs h2 h3) (dp_prs g2 g3) (dPrs_sh _) (dPrs_sh _) ?_
        rw [dPrs_eqv]
        simpa [c] using k
      · rw [decide_eq_false c]
        walk_at "rd"
        simpa [c] using k
    · have hty : ∃ T1 l, TyX K H v (.type T1) ∧ PySem.fastBuiltinMro T1 = some l ∧ l.contains (Value.ref T.C_Web) = false := by
        rcases hv with rfl | ⟨i, rfl⟩ | ⟨b, ys, rfl, hb | hb⟩
        · obtain ⟨l, m1, m2⟩ := mro_none (C := T.C_Web)
          exact ⟨_, l, .base .non, m1, m2⟩
        · obtain ⟨l, m1, m2⟩ := mro_int (C := T.C_Web)
          exact ⟨_, l, .base (.int i), m1, m2⟩
        · obtain ⟨l, m1, m2⟩ := mro_list (C := T.C_Web)
          exact ⟨_, l, .base (.lst hb), m1, m2⟩
        · obtain ⟨l, m1, m2⟩ := mro_tuple (C := T.C_Web)
          exact ⟨_, l, .base (.tup hb), m1, m2⟩
      obtain ⟨T1, l, t1, t2, t3⟩ := hty
      refine isi_own t1 (kit_no T.is_Web T.ty_Web t2 t3) ?_
      walk_at "rd"
      exact k
theorem ok_check_web (T : Txt K mg) : FnOk P w K mg base CX0 3 T.a_check_web T.d_check_web ["web"] (sp_check_web T.C_Web) := by
  refine T.F_check_web.ok sccheck_web (fun vs H Q E h => ?_) (fun cdv A outer s H vs Q E hr h => ?_)
  · obtain ⟨p, n, ar, rfl, _⟩ := h; rfl
  · obtain ⟨p, n, ar, rfl, ⟨dx, q, xs, h1, h2, h3⟩, k⟩ := h
    refine ⟨_, (pss_one (ps_if (pt_not (pt_val (pe_callB call_isi (by rfl) T.n_isinstance (by decide +kernel) (pa_cons (pv 0) (pa_cons (pe_glob (v := .ref _) rfl T.m_Web rfl) pa_nil))))) (pss_one ps_never) pss_nil)), ?_⟩
    walk_at "rd"
    refine isi_own (ty_ins h1 T.cl_Web T.hc1_Web T.hc4_Web) kit_self ?_
    walk_at "rd"
    exact k
end
end W18

set_option maxRecDepth 100000
set_option maxHeartbeats 4000000
namespace W18
open PySem L2 SB
local macro_rules | `(tactic| walk_at "rd") => `(tactic| first | simp only [rd_var, rd_c, rd_seq, rd_next, rd_ret, rd_retN, rd_drop, rd_asg, rd_op, rd_un, rd_call, rd_callK0, rd_cons, rd_nil, rd_cb, rd_test, rd_b, rd_andV, rd_orV, rd_notV, rd_and, rd_or, rd_not, rd_if, rd_ifS, rd_tup, rd_lst, rd_step, rd_wstep, rd_revL, rNotB_bl, rd_lcL, rd_lc2, rd_lcZ, rd_lcR, rd_forL, rd_forZ, rd_forR, rd_make, rd_meth, rd_sfld, rd_bm, rd_prop, rd_yes, rd_par, rd_name, wipe, rI0_int, rI_int, rEq_int, rNe_int, rEq_bl, rNe_bl, L2.start, List.map_cons, List.map_nil, List.length_cons, List.length_nil, Nat.zero_add, Nat.reduceAdd, Nat.reduceSub, List.replicate, List.getElem?_cons_zero, List.getElem?_cons_succ, List.set_cons_zero, List.set_cons_succ, Option.some.injEq, exists_eq_left', exists_eq_left, exists_and_left, V.int.injEq, V.bl.injEq, V.ref.injEq, List.append_nil, List.cons_append, List.nil_append, List.cons.injEq, and_true, true_and, if_true, if_false, Bool.not_true, Bool.not_false, Bool.false_eq_true, ↓reduceIte, reduceCtorEq, decide_true, decide_false, false_and, exists_false, or_false, exists_const] | skip)
section
variable {P : Program} {w : World} {K : PySem.W.Frag} {mg : Str → Option Value} {base : Heap}
theorem ok_turned_web (T : Txt K mg) : FnOk P w K mg base CX0 7 T.a_turned_web T.d_turned_web ["web"] (sp_turned_web T.C_Web) := by
  refine T.F_turned_web.ok scturned_web (fun vs H Q E h => ?_) (fun cdv A outer s H vs Q E hr h => ?_)
  · obtain ⟨p, n, ar, rfl, _⟩ := h; rfl
  · obtain ⟨p, n, ar, rfl, web, G, k⟩ := h
    refine ⟨_, (pss_cons (ps_expr (pe_call (ok_check_web T) (hr.mono (by decide)) rfl T.m_check_web T.F_check_web.kp T.b_check_web .nil pass0 (pa_cons (pv 0) pa_nil)))
        (pss_one (ps_ret (pe_make T.mk_Web (ok_Web__init_ T) (hr.mono (by decide)) rfl T.m_Web T.b_Web__init_ .nil pass0 (pa_cons (pe_prop (pv 0) T.cl_Web T.p_Web_places (ok_Web_places T) (hr.mono (by decide)) T.b_Web_places .nil pass0 rfl) (pa_cons (pe_lc (own := [("tail", 1), ("head", 2)]) rfl scturned_web.nd (pi_list (pe_meth0 (pv 0) T.cl_Web T.me_Web_arrows (ok_Web_arrows T) (hr.mono (by decide)) T.b_Web_arrows .nil pass0)) (blkOk_by (own := [("tail", 1), ("head", 2)]) (N := Nturned_web) (sc := defScope sturned_web) (by decide +kernel)) (fun _ _ _ _ _ => (show PG _ _ (gTup K 2 (gCons (gName 1) (gCons (gName 2) gNil))) from pg_tup rfl (pgs_cons (pg_name (i := 1) scturned_web.nd rfl (Or.inl rfl) (Or.inr rfl)) (pgs_cons (pg_name (i := 2) scturned_web.nd rfl (Or.inl rfl) (Or.inr rfl)) pgs_nil)))) (fun _ _ _ _ _ => pts_nil) (fun _ _ _ _ _ => (pe_tup (pa_cons (pv 2) (pa_cons (pv 1) pa_nil))))) pa_nil)))))), ?_⟩
    obtain ⟨dx, q, xs, h1, h2, h3⟩ := id web
    walk_at "rd"
    refine ⟨p, n, ar, rfl, web, ?_⟩
    walk_at "rd"
    refine ⟨dx, _, h1, p, n, ar, rfl, web, ?_⟩
    walk_at "rd"
    refine ⟨dx, _, h1, web_no (by decide) (by decide), p, n, ar, rfl, web, fun l ys hl hys => ?_⟩
    walk_at "rd"
    have hyl := p2_len hys
    refine lcA upd_same (fun i acc B => Ar (nw H B) acc ((ar.take i).map fun p => (p.2, p.1))) .nil ?_ ?_
    · intro D i x acc H3 hi hx hD hacc hl3 e1 hp
      obtain ⟨pr, hpr, ipr⟩ := p2_get hys hx
      have e0 : Ex H H3 := (Evl.Ex.new hl).trans (e1.trans dr_ex)
      refine gPr (ipr.mono e0) ?_
      walk_at "rd"
      refine ⟨Evl.sz_of (by simp), fun t ht => ?_⟩
      refine cw_put hacc hl3 (by have := G.len; omega) e1 (Evl.Ex.new ht) ?_
      rw [List.take_add_one, hpr, List.map_append]
      exact p2_snoc (hp.mono (nw_mono (Evl.Ex.refl _) (dr_new ht))) ⟨t, rfl, nw_at (Evl.fresh_back e0 ht) (dr_at (fun z => by rw [z, hacc] at ht; cases ht) upd_same)⟩
    · intro D acc H3 hD hacc hl3 e1 hp
      have e0 : Ex H H3 := (Evl.Ex.new hl).trans (e1.trans dr_ex)
      rw [hyl, List.take_length] at hp
      walk_at "rd"
      intro x dxx hx hdx hne
      have em : Ex H3 (upd (upd H3 dxx (.own x)) x (.ins T.C_Web dxx [])) := made_ex hx hdx
      refine ⟨x, dxx, n, D, acc, ar.map fun p => (p.2, p.1), rfl, upd_same, .inl (em _ _ hacc), (hp.mono (nw_ex.trans dr_ex)).mono em, good_swap G, fun H' q2 zs hq2 e hx' hq2' ha' => ⟨rfl, ?_⟩⟩
      exact k H' x (init_ex e0 hx hdx e) (webN (e0.trans em) (Evl.fresh_back e0 hx) hq2 hx' hq2' ha')
theorem ok_is_row (T : Txt K mg) : FnOk P w K mg base CX0 4 T.a_is_row T.d_is_row ["web", "value"] (sp_is_row T.C_Web) := by
  refine T.F_is_row.ok scis_row (fun vs H Q E h => ?_) (fun cdv A outer s H vs Q E hr h => ?_)
  · obtain ⟨p, a, n, ar, ns, rfl, _⟩ := h; rfl
  · obtain ⟨p, a, n, ar, ns, rfl, web, is, R, k⟩ := h
    refine ⟨_, (pss_cons (ps_expr (pe_call (ok_check_web T) (hr.mono (by decide)) rfl T.m_check_web T.F_check_web.kp T.b_check_web .nil pass0 (pa_cons (pv 0) pa_nil)))
        (pss_cons (ps_if (PW.pt (pw_or (pt_not (pt_val (pe_callB call_isiT (by rfl) T.n_isinstance (by decide +kernel) (pa_cons (pv 1) (pa_cons (pe_tup (pa_cons (pe_bltn (v := .ty "list") rfl T.n_list (by decide +kernel) rfl) (pa_cons (pe_bltn (v := .ty "tuple") rfl T.n_tuple (by decide +kernel) rfl) pa_nil))) pa_nil))))) (pw_or1 (pt_cmpR op_ne (pe_callB call_len_seq (by rfl) T.n_len (by decide +kernel) (pa_cons (pv 1) pa_nil)) (pe_prop (pv 0) T.cl_Web T.p_Web_places (ok_Web_places T) (hr.mono (by decide)) T.b_Web_places .nil pass0 rfl) (nomark _))))) (pss_one (ps_ret pe_bl)) pss_nil)
        (pss_one (ps_ret (pe_and (pe_callB (cr_all rfl) (by rfl) T.n_all (by decide +kernel) (pa_cons (pe_lc (own := [("size", 2)]) rfl scis_row.nd (SB.pi_seq (pv 1)) (blkOk_by (own := [("size", 2)]) (N := Nis_row) (sc := defScope sis_row) (by decide +kernel)) (fun _ _ _ _ _ => (pg_name (i := 2) scis_row.nd rfl (Or.inl rfl) (Or.inr rfl))) (fun _ _ _ _ _ => pts_nil) (fun _ _ _ _ _ => (pe_and (pe_call (ok_is_count T) (hr.mono (by decide)) rfl T.m_is_count T.F_is_count.kp T.b_is_count .nil pass0 (pa_cons (pv 2) pa_nil)) (pe_one (pe_cmpR op_le (pv 2) (pe_glob (v := .int _) rfl T.g_MOST_ROW ⟨_, rfl⟩) (nomark _)))))) pa_nil)) (pe_one (pe_cmpR op_le (pe_callB (SB.cr_sumSq rfl) (by rfl) T.n_sum (by decide +kernel) (pa_cons (pv 1) pa_nil)) (pe_glob (v := .int _) rfl T.g_MOST_SUM ⟨_, rfl⟩) (nomark _)))))))), ?_⟩
    obtain ⟨dx, q, xs, h1, h2, h3⟩ := id web
    obtain ⟨r1, r2, r3, r4⟩ := R
    walk_at "rd"
    refine ⟨p, n, ar, rfl, web, ?_⟩
    walk_at "rd"
    refine isiLT is fun H1 e1 => ?_
    walk_at "rd"
    refine ⟨_, (is.mono e1).or, ?_⟩
    refine ⟨dx, _, e1 _ _ h1, p, n, ar, rfl, web.mono e1, ?_⟩
    walk_at "rd"
    rw [List.length_map, decide_eq_true r1]
    walk_at "rd"
    refine lcSeq (is.mono e1) rfl (fun i acc _ => acc = List.replicate i (V.bl true)) rfl ?_ ?_
    · intro D i x acc H3 hi hx hD hacc hl e3 hp
      obtain ⟨z, hz, rfl⟩ : ∃ z, z ∈ ns ∧ x = V.int z := by
        obtain ⟨z, hz, e⟩ := List.mem_map.mp (List.mem_of_getElem? hx)
        exact ⟨z, hz, e.symm⟩
      obtain ⟨z0, z1⟩ := r2 z hz
      walk_at "rd"
      refine ⟨z, rfl, ?_⟩
      rw [decide_eq_true z0]
      walk_at "rd"
      rw [decide_eq_true z1]
      refine cw_put hacc hl ?_ e3 (Evl.Ex.refl _) (by rw [hp]; exact List.replicate_succ'.symm)
      rw [List.length_map] at hi
      omega
    · intro D acc H3 hD hacc hl e3 hp
      have e4 : Ex H H3 := e1.trans (e3.trans dr_ex)
      walk_at "rd"
      refine allR (List.replicate (ns.map V.int).length true) (sqL hacc) (by rw [hp]; simp) ?_
      rw [show (List.replicate (ns.map V.int).length true).all id = true by simp]
      walk_at "rd"
      refine sumSqR ns (is.mono e4).sq ?_
      walk_at "rd"
      rw [decide_eq_true r3]
      exact k H3 e4
theorem ok_check_row (T : Txt K mg) : FnOk P w K mg base CX0 5 T.a_check_row T.d_check_row ["web", "row"] (sp_check_row T.C_Web) := by
  refine T.F_check_row.ok sccheck_row (fun vs H Q E h => ?_) (fun cdv A outer s H vs Q E hr h => ?_)
  · obtain ⟨p, a, n, ar, ns, rfl, _⟩ := h; rfl
  · obtain ⟨p, a, n, ar, ns, rfl, web, is, R, k⟩ := h
    refine ⟨_, (pss_one (ps_if (pt_not (pt_val (pe_call (ok_is_row T) (hr.mono (by decide)) rfl T.m_is_row T.F_is_row.kp T.b_is_row .nil pass0 (pa_cons (pv 0) (pa_cons (pv 1) pa_nil))))) (pss_one ps_never) pss_nil)), ?_⟩
    walk_at "rd"
    refine ⟨p, a, n, ar, ns, rfl, web, is, R, fun H1 e1 => ?_⟩
    walk_at "rd"
    exact k H1 e1
theorem ok_form (T : Txt K mg) : FnOk P w K mg base CX0 6 T.a_form T.d_form ["web", "row", "other"] (sp_form T.C_Web) := by
  refine T.F_form.ok scform (fun vs H Q E h => ?_) (fun cdv A outer s H vs Q E hr h => ?_)
  · obtain ⟨p, a, b, n, ar, ns, ms, rfl, _⟩ := h; rfl
  · obtain ⟨p, a, b, n, ar, ns, ms, rfl, web, inn, hlen, ia, Ra, ib, Rb, k⟩ := h
    refine ⟨_, (pss_cons (ps_expr (pe_call (ok_check_web T) (hr.mono (by decide)) rfl T.m_check_web T.F_check_web.kp T.b_check_web .nil pass0 (pa_cons (pv 0) pa_nil)))
        (pss_cons (ps_expr (pe_call (ok_check_row T) (hr.mono (by decide)) rfl T.m_check_row T.F_check_row.kp T.b_check_row .nil pass0 (pa_cons (pv 0) (pa_cons (pv 1) pa_nil))))
        (pss_cons (ps_expr (pe_call (ok_check_row T) (hr.mono (by decide)) rfl T.m_check_row T.F_check_row.kp T.b_check_row .nil pass0 (pa_cons (pv 0) (pa_cons (pv 2) pa_nil))))
        (pss_cons (ps_set (i := 3) scform.nd rfl (Or.inl rfl) (pe_callB (cr_sum rfl) (by rfl) T.n_sum (by decide +kernel) (pa_cons (pe_lc (own := [("size", 4), ("late", 5)]) rfl scform.nd (pi_zip (by rfl) T.n_zip (pa_cons (pv 1) (pa_cons (pv 2) pa_nil))) (blkOk_by (own := [("size", 4), ("late", 5)]) (N := Nform) (sc := defScope sform) (by decide +kernel)) (fun _ _ _ _ _ => (show PG _ _ (gTup K 2 (gCons (gName 4) (gCons (gName 5) gNil))) from pg_tup rfl (pgs_cons (pg_name (i := 4) scform.nd rfl (Or.inl rfl) (Or.inr rfl)) (pgs_cons (pg_name (i := 5) scform.nd rfl (Or.inl rfl) (Or.inr rfl)) pgs_nil)))) (fun _ _ _ _ _ => pts_nil) (fun _ _ _ _ _ => (pe_op op_mul (pv 4) (pv 5)))) pa_nil)))
        (pss_one (ps_ret (pe_op op_sub (pv 3) (pe_callB (cr_sum rfl) (by rfl) T.n_sum (by decide +kernel) (pa_cons (pe_lc (own := [("tail", 6), ("head", 7)]) rfl scform.nd (pi_list (pe_meth0 (pv 0) T.cl_Web T.me_Web_arrows (ok_Web_arrows T) (hr.mono (by decide)) T.b_Web_arrows .nil pass0)) (blkOk_by (own := [("tail", 6), ("head", 7)]) (N := Nform) (sc := defScope sform) (by decide +kernel)) (fun _ _ _ _ _ => (show PG _ _ (gTup K 2 (gCons (gName 6) (gCons (gName 7) gNil))) from pg_tup rfl (pgs_cons (pg_name (i := 6) scform.nd rfl (Or.inl rfl) (Or.inr rfl)) (pgs_cons (pg_name (i := 7) scform.nd rfl (Or.inl rfl) (Or.inr rfl)) pgs_nil)))) (fun _ _ _ _ _ => pts_nil) (fun _ _ _ _ _ => (pe_op op_mul (pe_ix (show IxR _ (rIxL K) from ix_list) (pv 1) (pv 6) (fun _ _ => rfl)) (pe_ix (show IxR _ (rIxL K) from ix_list) (pv 2) (pv 7) (fun _ _ => rfl))))) pa_nil))))))))), ?_⟩
    obtain ⟨dx, q, xs, h1, h2, h3⟩ := id web
    have ra1 := Ra.len
    have rb1 := Rb.len
    have rn := Ra.nb
    walk_at "rd"
    refine ⟨p, n, ar, rfl, web, ?_⟩
    walk_at "rd"
    refine ⟨p, a, n, ar, ns, rfl, web, ia.is, Ra, fun H1 e1 => ?_⟩
    walk_at "rd"
    refine ⟨p, b, n, ar, ms, rfl, web.mono e1, .inl (e1 _ _ ib), Rb, fun H2 e2 => ?_⟩
    have e02 : Ex H H2 := e1.trans e2
    walk_at "rd"
    refine lcZ (e02 _ _ ia) (e02 _ _ ib) (by simp; omega) (fun i acc _ => acc = (((ns.zip ms).take i).map fun q => q.1 * q.2).map V.int) rfl ?_ ?_
    · intro D i x y acc H3 t hi hx hy hD hacc hl e3 hp ht
      obtain ⟨z1, hz1, rfl⟩ := map_get hx
      obtain ⟨z2, hz2, rfl⟩ := map_get hy
      have hza := Ra.ok z1 (List.mem_of_getElem? hz1)
      refine gPr (p := (z1, z2)) ⟨t, rfl, upd_same⟩ ?_
      walk_at "rd"
      refine ⟨.inl ⟨by omega, by omega⟩, cw_put hacc hl (by simp at hi; omega) e3 (Evl.Ex.new ht) ?_⟩
      rw [hp, List.take_add_one, zip_get hz1 hz2]
      simp
    · intro D acc H3 hD hacc hl e3 hp
      have e03 : Ex H H3 := e02.trans (e3.trans dr_ex)
      have hzl : (ns.zip ms).length = ns.length := by rw [List.length_zip]; omega
      walk_at "rd"
      refine sumR ((ns.zip ms).map fun q => q.1 * q.2) (sqL hacc) (by rw [hp, List.length_map, ← hzl, List.take_length]) ?_
      walk_at "rd"
      refine ⟨dx, _, e03 _ _ h1, web_no (by decide) (by decide), p, n, ar, rfl, web.mono e03, fun l ys hl2 hys => ?_⟩
      walk_at "rd"
      have hyl := p2_len hys
      refine lcA upd_same (fun i acc _ => acc = ((ar.take i).map fun p => ns.getD p.1.toNat 0 * ms.getD p.2.toNat 0).map V.int) rfl ?_ ?_
      · intro D2 i x acc2 H4 hi hx hD2 hacc2 hl4 e4 hp2
        have e34 : Ex H3 H4 := (Evl.Ex.new hl2).trans (e4.trans dr_ex)
        obtain ⟨pr, hpr, ipr⟩ := p2_get hys hx
        obtain ⟨o1, o2, o3, o4, o5⟩ := inn pr (List.mem_of_getElem? hpr)
        refine gPr (ipr.mono e34) ?_
        walk_at "rd"
        refine ixL (sqL (e34 _ _ (e03 _ _ ia))) (at_ints o1 (by omega)) ?_
        refine ixL (sqL (e34 _ _ (e03 _ _ ib))) (at_ints o3 (by omega)) ?_
        walk_at "rd"
        have hza := getD_ok Ra.ok o1 (by omega : pr.1 < (ns.length : Int))
        refine ⟨.inl ⟨by omega, by omega⟩, cw_put hacc2 hl4 (by omega) e4 (Evl.Ex.refl _) ?_⟩
        rw [hp2, List.take_add_one, hpr]
        simp
      · intro D2 acc2 H4 hD2 hacc2 hl4 e4 hp2
        walk_at "rd"
        refine sumR (ar.map fun p => ns.getD p.1.toNat 0 * ms.getD p.2.toNat 0) (sqL hacc2) (by rw [hp2, hyl, List.take_length]) ?_
        walk_at "rd"
        exact k H4 (e03.trans ((Evl.Ex.new hl2).trans (e4.trans dr_ex)))
end
end W18

set_option maxRecDepth 100000
set_option maxHeartbeats 4000000
namespace W18
open PySem L2 SB
local macro_rules | `(tactic| walk_at "rd") => `(tactic| first | simp only [rd_var, rd_c, rd_seq, rd_next, rd_ret, rd_retN, rd_drop, rd_asg, rd_op, rd_un, rd_call, rd_callK0, rd_cons, rd_nil, rd_cb, rd_test, rd_b, rd_andV, rd_orV, rd_notV, rd_and, rd_or, rd_not, rd_if, rd_ifS, rd_tup, rd_lst, rd_step, rd_wstep, rd_revL, rNotB_bl, rd_lcL, rd_lc2, rd_lcZ, rd_lcR, rd_forL, rd_forZ, rd_forR, rd_make, rd_meth, rd_sfld, rd_bm, rd_prop, rd_yes, rd_par, rd_name, wipe, rI0_int, rI_int, rEq_int, rNe_int, rEq_bl, rNe_bl, L2.start, List.map_cons, List.map_nil, List.length_cons, List.length_nil, Nat.zero_add, Nat.reduceAdd, Nat.reduceSub, List.replicate, List.getElem?_cons_zero, List.getElem?_cons_succ, List.set_cons_zero, List.set_cons_succ, Option.some.injEq, exists_eq_left', exists_eq_left, exists_and_left, V.int.injEq, V.bl.injEq, V.ref.injEq, List.append_nil, List.cons_append, List.nil_append, List.cons.injEq, and_true, true_and, if_true, if_false, Bool.not_true, Bool.not_false, Bool.false_eq_true, ↓reduceIte, reduceCtorEq, decide_true, decide_false, false_and, exists_false, or_false, exists_const] | skip)
section
variable {P : Program} {w : World} {K : PySem.W.Frag} {mg : Str → Option Value} {base : Heap}
theorem ok_rows_below (T : Txt K mg) : FnOk P w K mg base CX0 6 T.a_rows_below T.d_rows_below ["web", "row"] (sp_rows_below T.C_Web) := by
  refine T.F_rows_below.ok scrows_below (fun vs H Q E h => ?_) (fun cdv A outer s H vs Q E hr h => ?_)
  · obtain ⟨p, a, n, ar, ns, rfl, _⟩ := h; rfl
  · obtain ⟨p, a, n, ar, ns, rfl, web, is, R, hprod, k⟩ := h
    refine ⟨_, (pss_cons (ps_expr (pe_call (ok_check_web T) (hr.mono (by decide)) rfl T.m_check_web T.F_check_web.kp T.b_check_web .nil pass0 (pa_cons (pv 0) pa_nil)))
        (pss_cons (ps_expr (pe_call (ok_check_row T) (hr.mono (by decide)) rfl T.m_check_row T.F_check_row.kp T.b_check_row .nil pass0 (pa_cons (pv 0) (pa_cons (pv 1) pa_nil))))
        (pss_cons (ps_set (i := 2) scrows_below.nd rfl (Or.inl rfl) pe_int)
        (pss_cons (ps_for PassesOwn.never rfl (SB.pi_seq (pv 1)) (pg_name (i := 3) scrows_below.nd rfl (Or.inr rfl) (Or.inl rfl)) (pss_one (ps_set (i := 2) scrows_below.nd rfl (Or.inl rfl) (pe_op op_mul (pv 2) (pe_op op_add (pv 3) pe_int)))))
        (pss_cons (ps_if (pt_cmpR op_gt (pv 2) (pe_glob (v := .int _) rfl T.g_MOST_BELOW ⟨_, rfl⟩) (nomark _)) (pss_one ps_never) pss_nil)
        (pss_cons (ps_set (i := 4) scrows_below.nd rfl (Or.inl rfl) (pe_lst (pa_cons (pe_lst pa_nil) pa_nil)))
        (pss_cons (ps_for PassesOwn.never rfl (SB.pi_seq (pv 1)) (pg_name (i := 3) scrows_below.nd rfl (Or.inr rfl) (Or.inl rfl)) (pss_one (ps_setLc2 (i := 4) (own := [("begun", 5), ("less", 6)]) (vs1 := [6]) rfl scrows_below.nd rfl rfl (sw_true rfl rfl rfl (by decide +kernel)) (pi_list (pv 4)) (blkOk_by (own := [("begun", 5), ("less", 6)]) (N := Nrows_below) (sc := defScope srows_below) (by decide +kernel)) (by decide) (fun _ _ _ _ _ => (pg_name (i := 5) scrows_below.nd rfl (Or.inl rfl) (Or.inr rfl))) (fun _ _ _ _ _ => pts_nil) (fun _ _ _ _ _ => (pi_range1 rfl T.n_range (pa_cons (pe_op op_add (pv 3) pe_int) pa_nil))) (fun _ _ _ _ _ => (pg_name (i := 6) scrows_below.nd rfl (Or.inl rfl) (Or.inr rfl))) (fun _ _ _ _ _ => pts_nil) (fun _ _ _ _ _ => (pe_op op_cat (pv 5) (pe_lst (pa_cons (pv 6) pa_nil)))))))
        (pss_one (ps_ret (pv 4)))))))))), ?_⟩
    have r1 := R.len
    have r4 := R.nb
    have hnn : ∀ z ∈ ns, 0 ≤ z := fun z hz => (R.ok z hz).1
    walk_at "rd"
    refine ⟨p, n, ar, rfl, web, ?_⟩
    walk_at "rd"
    refine ⟨p, a, n, ar, ns, rfl, web, is, R, fun H1 e1 => ?_⟩
    walk_at "rd"
    -- the product
    refine for_seq (is.mono e1) rfl (fun j σ H' => ∃ v3 : Option V, σ = [some (.ref p), some (.ref a), some (.int (prodM (ns.take j))), v3, none, none, none] ∧ Ex H1 H') ⟨none, rfl, Evl.Ex.refl _⟩ (fun j σ H' _ ⟨_, _, e⟩ o h => e _ _ h) ?_ ?_
    · rintro j x σ H2 hx ⟨v3, rfl, e2⟩
      obtain ⟨z, hz, rfl⟩ := map_get hx
      have hz0 := R.ok z (List.mem_of_getElem? hz)
      walk_at "rd"
      refine ⟨.inr ⟨by omega, by omega⟩, some (.int z), ?_, e2⟩
      rw [prod_take hz]
      exact ⟨rfl, rfl⟩
    rintro σ H2 ⟨v3, rfl, e2⟩
    walk_at "rd"
    rw [List.length_map, List.take_length, decide_eq_false (show ¬ (400 : Int) < prodM ns by omega)]
    walk_at "rd"
    refine ⟨Evl.sz_of (by decide), fun l0 hl0 => ⟨Evl.sz_of (by decide), fun q0 hq0 => ?_⟩⟩
    have e12 : Ex H H2 := e1.trans e2
    have e3 : Ex H2 (upd (upd H2 l0 (.lst [])) q0 (.lst [.ref l0])) := (Evl.Ex.new hl0).trans (Evl.Ex.new hq0)
    have hq0' : H2 q0 = none := Evl.fresh_back (Evl.Ex.new hl0) hq0
    have hl0q : l0 ≠ q0 := fun z => by rw [← z, upd_same] at hq0; cases hq0
    walk_at "rd"
    refine for_seq (is.mono (e12.trans e3)) rfl (fun j σ H' => ∃ (q : Addr) (v3 : Option V), σ = [some (.ref p), some (.ref a), some (.int (prodM ns)), v3, some (.ref q), none, none] ∧ Ex H H' ∧ LL (nw H H') q (belowM (ns.take j)))
      ⟨q0, v3, rfl, e12.trans e3, [.ref l0], nw_at (Evl.fresh_back e12 hq0') upd_same, .cons ⟨l0, rfl, nw_at (Evl.fresh_back e12 hl0) (by rw [upd_ne hl0q]; exact upd_same)⟩ .nil⟩
      (fun j σ H' _ ⟨_, _, _, e, _⟩ o h => ?_) ?_ ?_
    · rcases is with h2 | h2
      · rw [(e12.trans e3) _ _ h2] at h; cases h; exact e _ _ h2
      · rw [(e12.trans e3) _ _ h2] at h; cases h; exact e _ _ h2
    · rintro j x σ H4 hx ⟨q, v3', rfl, e4, xs, hq, hrows⟩
      obtain ⟨z, hz, rfl⟩ := map_get hx
      have hz0 := R.ok z (List.mem_of_getElem? hz)
      have hpl := prod_le hnn j
      have hbl : ((belowM (ns.take j)).length : Int) = prodM (ns.take j) := below_len (ns.take j) [[]] 1 (fun y hy => hnn y (List.mem_of_mem_take hy)) rfl
      have hbr : ∀ r ∈ belowM (ns.take j), r.length ≤ 13 := fun r hr => by
        have h1 := below_rows (ns.take j) [[]] 0 (fun r hr => by rcases List.mem_cons.mp hr with e | e; (subst e; rfl); cases e) r hr
        have h2 : (ns.take j).length ≤ ns.length := by rw [List.length_take]; omega
        omega
      have hxl := p2_len hrows
      walk_at "rd"
      refine lc2LR (n := (z + 1).toNat) (nw_of hq).2 (fun x H' R hR => ?_) (fun x => by walk_at "rd") (fun x y => by walk_at "rd") (fun i j2 acc B => Paired (IsRow (nw H B)) acc (gB (belowM (ns.take j)) (z + 1).toNat i j2)) (by rw [gB_zero]; exact .nil) (fun i acc B hi h => by rw [gB_next _ _ _ (by omega)]; exact h) ?_ ?_
      · refine ⟨_, rfl, z, 1, rfl, rfl, z + 1, rfl, by omega, by omega, hR⟩
      · intro D i x j2 acc H5 hi hx2 hj2 hD hacc e5 hp
        obtain ⟨b, hb, l, rfl, hl⟩ := p2_get hrows hx2
        have e45 : Ex H4 H5 := e5.trans dr_ex
        have hgD : (belowM (ns.take j)).getD i [] = b := by simp [List.getD, hb]
        have hbl2 := hbr b (List.mem_of_getElem? hb)
        walk_at "rd"
        refine ⟨Evl.sz_of (by decide), fun m hm => ?_⟩
        refine ⟨l, m, b.map V.int, [.int (j2 : Int)], rfl, rfl, (Evl.Ex.new hm) _ _ (e45 _ _ (nw_of hl).2), upd_same, Evl.sz_of (by simp; omega), fun t ht => ?_⟩
        have hal := p2_len hp
        have hgl := gB_len (belowM (ns.take j)) (z + 1).toNat i j2
        have hmul : (belowM (ns.take j)).length * (z + 1).toNat ≤ 400 * 7 := Nat.mul_le_mul (by omega) (by omega)
        have e6 : Ex H5 (upd (upd H5 m (.lst [.int (j2 : Int)])) t (.lst (b.map V.int ++ [.int (j2 : Int)]))) := (Evl.Ex.new hm).trans (Evl.Ex.new ht)
        have htm : H5 t = none := Evl.fresh_back (Evl.Ex.new hm) ht
        refine cw2_put hacc (by omega) e5 e6 ?_
        rw [gB_succ, hgD]
        refine p2_snoc (p2_mono (fun _ _ h => IsRow.mono (nw_mono (Evl.Ex.refl _) (dr_mono e6)) h) hp) ⟨t, rfl, nw_at (Evl.fresh_back (e4.trans e45) htm) (dr_at (fun z => by rw [z, hacc] at htm; cases htm) ?_)⟩
        rw [upd_same]
        simp
      · intro D acc H5 hD hacc e5 hp
        walk_at "rd"
        refine ⟨D, some (.int z), ⟨rfl, rfl⟩, e4.trans (e5.trans dr_ex), acc, nw_at (Evl.fresh_back e4 hD) hacc, ?_⟩
        rw [below_take hz, ← gB_end, ← hxl]
        exact p2_mono (fun _ _ h => IsRow.mono (nw_mono (Evl.Ex.refl _) dr_ex) h) hp
    · rintro σ H4 ⟨q, v3', rfl, e4, hll⟩
      rw [List.length_map, List.take_length] at hll
      walk_at "rd"
      exact k H4 q e4 hll
end
end W18

set_option maxRecDepth 100000
set_option maxHeartbeats 4000000
namespace W18
open PySem L2 SB
local macro_rules | `(tactic| walk_at "rd") => `(tactic| first | simp only [rd_var, rd_c, rd_seq, rd_next, rd_ret, rd_retN, rd_drop, rd_asg, rd_op, rd_un, rd_call, rd_callK0, rd_cons, rd_nil, rd_cb, rd_test, rd_b, rd_andV, rd_orV, rd_notV, rd_and, rd_or, rd_not, rd_if, rd_ifS, rd_tup, rd_lst, rd_step, rd_wstep, rd_revL, rNotB_bl, rd_lcL, rd_lc2, rd_lcZ, rd_lcR, rd_forL, rd_forZ, rd_forR, rd_make, rd_meth, rd_sfld, rd_bm, rd_prop, rd_yes, rd_par, rd_name, wipe, rI0_int, rI_int, rEq_int, rNe_int, rEq_bl, rNe_bl, L2.start, List.map_cons, List.map_nil, List.length_cons, List.length_nil, Nat.zero_add, Nat.reduceAdd, Nat.reduceSub, List.replicate, List.getElem?_cons_zero, List.getElem?_cons_succ, List.set_cons_zero, List.set_cons_succ, Option.some.injEq, exists_eq_left', exists_eq_left, exists_and_left, V.int.injEq, V.bl.injEq, V.ref.injEq, List.append_nil, List.cons_append, List.nil_append, List.cons.injEq, and_true, true_and, if_true, if_false, Bool.not_true, Bool.not_false, Bool.false_eq_true, ↓reduceIte, reduceCtorEq, decide_true, decide_false, false_and, exists_false, or_false, exists_const] | skip)
section
variable {P : Program} {w : World} {K : PySem.W.Frag} {mg : Str → Option Value} {base : Heap}
theorem ok__law_pot (T : Txt K mg) : FnOk P w K mg base CX0 1 T.a__law_pot T.d__law_pot ["script", "k"] (sp__law_pot K) := by
  refine T.F__law_pot.ok sc_law_pot (fun vs H Q E h => ?_) (fun cdv A outer s H vs Q E hr h => ?_)
  · obtain ⟨a, ns, rfl, _⟩ := h; rfl
  · obtain ⟨a, ns, rfl, hS, k⟩ := h
    refine ⟨_, (pss_cons (ps_set (i := 2) sc_law_pot.nd rfl (Or.inl rfl) (pe_ifExp (pt_cmpR op_lt (pv 1) (pe_callB call_len_seq (by rfl) T.n_len (by decide +kernel) (pa_cons (pv 0) pa_nil)) (nomark _)) (pe_callB call_abs (by rfl) T.n_abs (by decide +kernel) (pa_cons (pe_ix ix_list (pv 0) (pv 1) (fun _ _ => rfl)) pa_nil)) (pe_op op_add (pe_op op_mul pe_int (pv 1)) pe_int)))
        (pss_cons (ps_set (i := 3) sc_law_pot.nd rfl (Or.inl rfl) (pe_op op_add (pe_op op_mod (pe_callTy call_int1 (by rfl) T.n_int (by decide +kernel) (pa_cons (pe_op op_add (pe_op op_add (pe_op op_mul (pe_op op_mod (pe_callTy call_int1 (by rfl) T.n_int (by decide +kernel) (pa_cons (pv 2) pa_nil)) pe_int) pe_int) (pe_op op_mul pe_int (pv 1))) pe_int) pa_nil)) pe_int) pe_int))
        (pss_one (ps_ret (pe_lst (pa_cons (pe_callB (call_max2 rfl) (by rfl) T.n_max (by decide +kernel) (pa_cons pe_int (pa_cons (pe_op op_sub (pv 2) (pe_op op_pow pe_int pe_int)) pa_nil))) (pa_cons (pv 3) pa_nil))))))), ?_⟩
    have key : ∀ c : Int, 0 ≤ c → ∀ p, H p = none → Q (.ref p) (upd H p (.lst [.int (if c - 10 ^ Int.toNat 18 > 0 then c - 10 ^ Int.toNat 18 else 0), .int ((c % 2147483549 * 41411 + 7297 * 0 + 743) % 2147483563 + 1)])) := fun c hc p hp =>
      k p _ (Evl.Ex.new hp) ⟨_, _, upd_same, by split <;> omega, by omega, by omega⟩
    walk_at "rd"
    refine ⟨_, .inl hS, ?_⟩
    rw [List.length_map]
    by_cases c : 0 < ns.length
    · rw [if_pos (by simpa using c)]
      obtain ⟨z, hz⟩ : ∃ z, ns[0]? = some z := ⟨ns[0], by simp [c]⟩
      refine ixL hS (at_of (j := 0) rfl (ints_at hz)) ?_
      walk_at "rd"
      generalize hc : (if z < 0 then -z else z) = y
      have y0 : 0 ≤ y := by rw [← hc]; split <;> omega
      refine ⟨by decide, .inl ⟨by omega, by omega⟩, .inl ⟨by decide, by decide⟩, by decide, ⟨by decide, by decide, by decide⟩, 0, _, ⟨rfl, rfl⟩, Evl.sz_of (by decide), fun p hp => key y y0 p hp⟩
    · rw [if_neg (by simpa using c)]
      walk_at "rd"
      exact ⟨.inl ⟨by decide, by decide⟩, by decide, .inl ⟨by decide, by decide⟩, .inl ⟨by decide, by decide⟩, by decide, ⟨by decide, by decide, by decide⟩, 0, _, ⟨rfl, rfl⟩, Evl.sz_of (by decide), fun p hp => key 811 (by decide) p hp⟩
theorem ok__law_draw (T : Txt K mg) : FnOk P w K mg base CX0 1 T.a__law_draw T.d__law_draw ["pot", "sides"] sp__law_draw := by
  refine T.F__law_draw.ok sc_law_draw (fun vs H Q E h => ?_) (fun cdv A outer s H vs Q E hr h => ?_)
  · obtain ⟨p, n, rfl, _⟩ := h; rfl
  · obtain ⟨p, n, rfl, ⟨x, y, hp, x0, y0, y1⟩, n0, n1, k⟩ := h
    refine ⟨_, (pss_cons (ps_if (pt_cmpR op_gt (pe_ix ix_list (pv 0) pe_int (fun _ _ => rfl)) pe_int (nomark _)) (pss_cons (ps_asg (pe_callB call_divmodW (by rfl) T.n_divmod (by decide +kernel) (pa_cons (pe_ix ix_list (pv 0) pe_int (fun _ _ => rfl)) (pa_cons (pv 1) pa_nil))) (pg_tup rfl (pgs_cons (pg_sub (pv 0) pe_int set_list) (pgs_cons (pg_name (i := 2) sc_law_draw.nd rfl (Or.inl rfl) (Or.inr rfl)) pgs_nil))))
        (pss_one (ps_ret (pv 2)))) pss_nil)
        (pss_cons (ps_asg (pe_op op_mod (pe_callTy call_int1 (by rfl) T.n_int (by decide +kernel) (pa_cons (pe_op op_add (pe_op op_mul (pe_ix ix_list (pv 0) pe_int (fun _ _ => rfl)) pe_int) pe_int) pa_nil)) pe_int) (pg_sub (pv 0) pe_int set_list))
        (pss_one (ps_ret (pe_op op_mod (pe_callTy call_int1 (by rfl) T.n_int (by decide +kernel) (pa_cons (pe_op op_fdiv (pe_op op_mod (pe_callTy call_int1 (by rfl) T.n_int (by decide +kernel) (pa_cons (pe_op op_mul (pe_ix ix_list (pv 0) pe_int (fun _ _ => rfl)) (pe_ix ix_list (pv 0) pe_int (fun _ _ => rfl))) pa_nil)) pe_int) pe_int) pa_nil)) (pv 1)))))), ?_⟩
    walk_at "rd"
    refine ixL (sqL hp) (at_of (j := 0) rfl rfl) ?_
    walk_at "rd"
    by_cases c : 0 < x
    · rw [if_pos (decide_eq_true c)]
      walk_at "rd"
      refine ixL (sqL hp) (at_of (j := 0) rfl rfl) ?_
      walk_at "rd"
      refine ⟨x, n, ⟨rfl, rfl⟩, divp_small n0 n1, fun q hq => ?_⟩
      have hpq : p ≠ q := ne_of_none hp hq
      have hp2 : (upd H q (.tup [.int (x / n), .int (x % n)])) p = some (.lst [.int x, .int y]) := by rw [upd_ne hpq]; exact hp
      refine ⟨q, _, rfl, sqT upd_same, rfl, _, _, rfl, _, rfl, p, [.int x, .int y], 0, 0, rfl, rfl, hp2, rfl, _, _, rfl, rfl, ?_⟩
      walk_at "rd"
      refine k (x % n) _ (Int.emod_nonneg _ (by omega)) (Int.emod_lt_of_pos _ n0) ?_ ⟨x / n, y, upd_same, Int.ediv_nonneg x0 (by omega), y0, y1⟩
      rw [dr_upd]
      exact dr_new hq
    · rw [if_neg (by simpa using c)]
      walk_at "rd"
      refine ixL (sqL hp) (at_of (j := 1) rfl rfl) ?_
      walk_at "rd"
      refine ⟨.inl ⟨by omega, by omega⟩, by decide, ?_⟩
      refine ⟨_, rfl, p, [.int x, .int y], 1, 1, rfl, rfl, hp, rfl, ?_⟩
      walk_at "rd"
      refine ixL (sqL upd_same) (at_of (j := 1) rfl rfl) ?_
      refine ixL (sqL upd_same) (at_of (j := 1) rfl rfl) ?_
      walk_at "rd"
      refine ⟨.inl ⟨by omega, by omega⟩, by decide, ⟨by decide, by decide⟩, n0, ?_⟩
      refine k _ _ (Int.emod_nonneg _ (by omega)) (Int.emod_lt_of_pos _ n0) ?_ ⟨x, (y * 40819 + 30047) % 2147483563, upd_same, x0, by omega, by omega⟩
      rw [dr_upd]
      exact Evl.Ex.refl _
theorem ok__law_order (T : Txt K mg) : FnOk P w K mg base CX0 2 T.a__law_order T.d__law_order ["pot", "many"] sp__law_order := by
  refine T.F__law_order.ok sc_law_order (fun vs H Q E h => ?_) (fun cdv A outer s H vs Q E hr h => ?_)
  · obtain ⟨p, n, rfl, _⟩ := h; rfl
  · obtain ⟨p, n, rfl, pot, n0, n1, k⟩ := h
    refine ⟨_, (pss_cons (ps_par (i := 2) (j := 3) (by rfl) sc_law_order.nd rfl rfl (by decide) rfl rfl (pa_cons (pe_listRg rfl rfl T.n_list (prg_1 rfl T.n_range (pv 1))) (pa_cons (pe_lst pa_nil) pa_nil)) (by rfl))
        (pss_cons (ps_while PassesOwn.never (pt_cmpR (op_neD hr.units) (pv 2) (pe_lst pa_nil) (nomark _)) (pss_one (ps_expr (pe_bm PySem.F.plainAttrs_list PySem.F.slot_list_append PySem.F.type_list_append mt_append (pv 3) (pa_cons (pe_bm PySem.F.plainAttrs_list PySem.F.slot_list_pop PySem.F.type_list_pop mt_popAt (pv 2) (pa_cons (pe_call (ok__law_draw T) (hr.mono (by decide)) rfl T.m__law_draw T.F__law_draw.kp T.b__law_draw .nil pass0 (pa_cons (pv 0) (pa_cons (pe_callB call_len_seq (by rfl) T.n_len (by decide +kernel) (pa_cons (pv 2) pa_nil)) pa_nil))) pa_nil)) pa_nil)))))
        (pss_one (ps_ret (pv 3))))), ?_⟩
    obtain ⟨po, hpo⟩ := pot.some
    walk_at "rd"
    refine ⟨_, rfl, n, rfl, RgOk.of_le (by decide) (by omega) (by decide) n0, fun l hl => ?_⟩
    walk_at "rd"
    refine ⟨Evl.sz_of (by decide), fun f hf => ?_⟩
    have hrg : rgV 0 n = ((List.range n.toNat).map fun (i : Nat) => (i : Int)).map V.int := by
      show (List.range (n - 0).toNat).map (fun i => V.int (0 + ((i : Nat) : Int))) = _
      rw [Int.sub_zero, List.map_map]
      refine List.map_congr_left fun i _ => ?_
      show V.int (0 + (i : Int)) = V.int (i : Int)
      rw [Int.zero_add]
    have e1 : Ex H (upd (upd H l (.lst (rgV 0 n))) f (.lst [])) := (Evl.Ex.new hl).trans (Evl.Ex.new hf)
    have hfH : H f = none := Evl.fresh_back (Evl.Ex.new hl) hf
    have hlf : l ≠ f := fun z => by rw [← z, upd_same] at hf; cases hf
    refine ⟨_, _, ⟨rfl, rfl⟩, ?_⟩
    walk_at "rd"
    refine ⟨WOrder H p n l f, ⟨_, _, [], rfl, dr_mono e1, pot.mono e1, by rw [upd_ne hlf, upd_same, hrg], upd_same, by rw [List.append_nil], rfl⟩, ?_⟩
    rintro m σ H2 ⟨ls, fs, rfl, e2, pot2, hl2, hf2, hpm, rfl⟩
    have hlp : l ≠ p := fun z => by rw [z, hpo] at hl; cases hl
    have hfp : f ≠ p := fun z => by rw [z, hpo] at hfH; cases hfH
    have hlen := hpm.length_eq
    rw [List.length_append, List.length_map, List.length_range] at hlen
    walk_at "rd"
    refine ⟨Evl.sz_of (by decide), fun t ht => ?_⟩
    refine neD (dp_is ((Evl.Ex.new ht) _ _ hl2)) (dp_is (ns := []) upd_same) (dIs_sh _) (dIs_sh _) ?_
    rw [dIs_eqv]
    walk_at "rd"
    cases ls with
    | nil =>
      walk_at "rd"
      have hpm' : fs.Perm ((List.range n.toNat).map fun (i : Nat) => (i : Int)) := hpm
      refine k f fs _ (by simp at hlen; omega) ?_ (fun z hz => ?_) hfH (e2.trans (dr_new ht)) (pot2.mono (Evl.Ex.new ht)) ((Evl.Ex.new ht) _ _ hf2)
      · refine hpm'.nodup_iff.mpr ?_
        exact List.Pairwise.map _ (fun a b (hab : a ≠ b) => (show (a : Int) ≠ (b : Int) by omega)) List.nodup_range
      · obtain ⟨i, hi, rfl⟩ := List.mem_map.mp (hpm'.mem_iff.mp hz)
        have := List.mem_range.mp hi
        omega
    | cons l0 lr =>
      rw [if_pos (by simp)]
      have hpos : 0 < (l0 :: lr).length := by simp
      have e3 : Ex H2 (upd H2 t (.lst [])) := Evl.Ex.new ht
      refine ⟨fun σ' H' => ∃ m', m' < (l0 :: lr).length ∧ WOrder H p n l f m' σ' H', fun _ _ h => h, ?_⟩
      walk_at "rd"
      refine ⟨.inl ⟨rfl, _, sqL (e3 _ _ hf2)⟩, .inl ⟨rfl, _, sqL (e3 _ _ hl2)⟩, _, .inl (sqL (e3 _ _ hl2)), ?_⟩
      refine ⟨p, _, rfl, pot2.mono e3, by rw [List.length_map]; omega, by rw [List.length_map]; omega, fun d H4 d0 d1 e4 pot4 => ?_⟩
      rw [List.length_map] at d1
      have h4l := dr_keep e4 hlp (e3 _ _ hl2)
      have h4f := dr_keep e4 hfp (e3 _ _ hf2)
      obtain ⟨y, hy⟩ : ∃ y, (l0 :: lr)[d.toNat]? = some y := ⟨(l0 :: lr)[d.toNat]'(by omega), by rw [List.getElem?_eq_getElem]⟩
      refine ⟨l, _, d, d.toNat, .int y, rfl, rfl, h4l, by omega, by omega, by rw [List.length_map]; exact seqIx d0 d1, ints_at hy, ?_⟩
      refine ⟨f, fs.map V.int, .int y, rfl, rfl, by rw [upd_ne hlf.symm]; exact h4f, Evl.sz_lt (by rw [List.length_map]; omega), ?_⟩
      have hel : ((l0 :: lr).eraseIdx d.toNat).length < (l0 :: lr).length := by
        rw [(perm_erase hy).length_eq]
        simp
      refine ⟨_, hel, (l0 :: lr).eraseIdx d.toNat, fs ++ [y], rfl, ?_, ?_, ?_, ?_, ?_, rfl⟩
      · have E := e2.trans ((dr_mono e3).trans e4)
        intro b o hb
        obtain ⟨b1, b2⟩ := dr_of hb
        exact dr_at b1 (by rw [upd_ne (ne_of_none b2 hfH), upd_ne (ne_of_none b2 hl)]; exact (dr_of (E b o hb)).2)
      · obtain ⟨x', y', hpp, q'⟩ := pot4
        exact ⟨x', y', by rw [upd_ne hfp.symm, upd_ne hlp.symm]; exact hpp, q'⟩
      · rw [upd_ne hlf, upd_same, erase_map]
      · rw [upd_same]; simp
      · exact perm_move hy hpm
theorem ok__law_web (T : Txt K mg) : FnOk P w K mg base CX0 3 T.a__law_web T.d__law_web ["pot", "least", "most", "arrows"] sp__law_web := by
  refine T.F__law_web.ok sc_law_web (fun vs H Q E h => ?_) (fun cdv A outer s H vs Q E hr h => ?_)
  · obtain ⟨p, lo, hi, m, rfl, _⟩ := h; rfl
  · obtain ⟨p, lo, hi, m, rfl, pot, h1, h2, h3, h4, h5, k⟩ := h
    refine ⟨_, (pss_cons (ps_set (i := 4) sc_law_web.nd rfl (Or.inl rfl) (pe_op op_add (pv 1) (pe_call (ok__law_draw T) (hr.mono (by decide)) rfl T.m__law_draw T.F__law_draw.kp T.b__law_draw .nil pass0 (pa_cons (pv 0) (pa_cons (pe_op op_sub (pe_op op_add (pv 2) pe_int) (pv 1)) pa_nil)))))
        (pss_cons (ps_par (i := 5) (j := 6) (by rfl) sc_law_web.nd rfl rfl (by decide) rfl rfl (pa_cons (pe_call (ok__law_order T) (hr.mono (by decide)) rfl T.m__law_order T.F__law_order.kp T.b__law_order .nil pass0 (pa_cons (pv 0) (pa_cons (pv 4) pa_nil))) (pa_cons (pe_lst pa_nil) pa_nil)) (by rfl))
        (pss_cons (ps_for PassesOwn.never rfl (pi_range1 rfl T.n_range (pa_cons (pe_ifExp (pt_cmpR op_gt (pv 4) pe_int (nomark _)) (pe_call (ok__law_draw T) (hr.mono (by decide)) rfl T.m__law_draw T.F__law_draw.kp T.b__law_draw .nil pass0 (pa_cons (pv 0) (pa_cons (pe_op op_add (pv 3) pe_int) pa_nil))) pe_int) pa_nil)) (pg_name (i := 7) sc_law_web.nd rfl (Or.inl rfl) (Or.inr rfl)) (pss_cons (ps_set (i := 8) sc_law_web.nd rfl (Or.inl rfl) (pe_op op_add pe_int (pe_call (ok__law_draw T) (hr.mono (by decide)) rfl T.m__law_draw T.F__law_draw.kp T.b__law_draw .nil pass0 (pa_cons (pv 0) (pa_cons (pe_op op_sub (pv 4) pe_int) pa_nil)))))
        (pss_one (ps_expr (pe_bm PySem.F.plainAttrs_list PySem.F.slot_list_append PySem.F.type_list_append mt_append (pv 6) (pa_cons (pe_tup (pa_cons (pe_ix ix_list (pv 5) (pe_call (ok__law_draw T) (hr.mono (by decide)) rfl T.m__law_draw T.F__law_draw.kp T.b__law_draw .nil pass0 (pa_cons (pv 0) (pa_cons (pv 8) pa_nil))) (fun _ _ => rfl)) (pa_cons (pe_ix ix_list (pv 5) (pv 8) (fun _ _ => rfl)) pa_nil))) pa_nil))))))
        (pss_one (ps_ret (pe_tup (pa_cons (pv 4) (pa_cons (pv 6) pa_nil)))))))), ?_⟩
    obtain ⟨po, hpo⟩ := pot.some
    walk_at "rd"
    refine ⟨p, hi + 1 - lo, rfl, pot, by omega, by omega, fun d1 H1 d10 d11 e1 pot1 => ?_⟩
    obtain ⟨n, hn⟩ : ∃ n, n = lo + d1 := ⟨_, rfl⟩
    walk_at "rd"
    rw [← hn]
    refine ⟨p, n, rfl, pot1, by omega, by omega, fun oq os H2 hol hon hor hoq e2 pot2 hos => ?_⟩
    walk_at "rd"
    refine ⟨Evl.sz_of (by decide), fun f hf => ?_⟩
    refine ⟨_, _, ⟨rfl, rfl⟩, ?_⟩
    walk_at "rd"
    have e3 : Ex H2 (upd H2 f (.lst [])) := Evl.Ex.new hf
    have e13 : Ex (dr p H) (dr p (upd H2 f (.lst []))) := (e1.trans e2).trans (dr_mono e3)
    have pot3 := pot2.mono e3
    obtain ⟨po1, hpo1⟩ := pot1.some
    obtain ⟨po2, hpo2⟩ := pot2.some
    have hop : oq ≠ p := fun z => by rw [z, hpo1] at hoq; cases hoq
    have hfp : f ≠ p := fun z => by rw [z, hpo2] at hf; cases hf
    have hfH : H f = none := by
      cases hh : H f with
      | none => rfl
      | some o => rw [(dr_of ((e1.trans e2) f o (dr_at hfp hh))).2] at hf; cases hf
    have hfo : f ≠ oq := fun z => by rw [z, hos] at hf; cases hf
    have hos3 := e3 _ _ hos
    by_cases c1 : 1 < n
    · rw [if_pos (decide_eq_true c1)]
      refine ⟨p, m + 1, rfl, pot3, by omega, by omega, fun c H4 c0 cm e4 pot4 => ?_⟩
      have hcn : 1 < n ∨ c = 0 := .inl c1
      have cm' : c ≤ m := by omega
      walk_at "rd"
      refine forR ⟨c0, by omega⟩ (fun i σ H5 => ∃ (xs : List V) (ar : List (Int × Int)) (v7 v8 : Option V), σ = [some (.ref p), some (.int lo), some (.int hi), some (.int m), some (.int n), some (.ref oq), some (.ref f), v7, v8] ∧ Ex (dr p H) (dr p H5) ∧ PotAt H5 p ∧
        H5 oq = some (.lst (os.map V.int)) ∧ H5 f = some (.lst xs) ∧ Ar (nw H H5) xs ar ∧ ar.length = i ∧ ∀ pr ∈ ar, OkAr n pr ∧ (os.idxOf pr.1 : Int) < (os.idxOf pr.2 : Int))
        ⟨[], [], none, none, rfl, e13.trans e4, pot4, dr_keep e4 hop hos3, dr_keep e4 hfp upd_same, .nil, rfl, fun pr h => by cases h⟩ ?_ ?_
      · rintro i σ H5 hi ⟨xs, ar, v7, v8, rfl, e5, pot5, ho5, hf5, ha5, hal, hok⟩
        have hn1 : 1 < n := by omega
        walk_at "rd"
        refine ⟨p, n - 1, rfl, pot5, by omega, by omega, fun d2 H6 d20 d21 e6 pot6 => ?_⟩
        walk_at "rd"
        have hf6 := dr_keep e6 hfp hf5
        have ho6 := dr_keep e6 hop ho5
        refine ⟨.inl ⟨rfl, _, sqL hf6⟩, p, 1 + d2, rfl, pot6, by omega, by omega, fun d3 H7 d30 d31 e7 pot7 => ?_⟩
        have hf7 := dr_keep e7 hfp hf6
        have ho7 := dr_keep e7 hop ho6
        obtain ⟨po7, hpo7⟩ := pot7.some
        refine ixL (sqL ho7) (at_ints d30 (by omega)) ?_
        refine ixL (sqL ho7) (at_ints (by omega) (by omega)) ?_
        walk_at "rd"
        refine ⟨Evl.sz_of (by decide), fun t ht => ?_⟩
        have htf : f ≠ t := ne_of_none hf7 ht
        have htp : p ≠ t := ne_of_none hpo7 ht
        have hxl := p2_len ha5
        refine ⟨f, xs, _, rfl, rfl, by rw [upd_ne htf]; exact hf7, Evl.sz_lt (by omega), ?_⟩
        have E := e5.trans (e6.trans e7)
        have g1 : os.getD d3.toNat 0 = os[d3.toNat]'(by omega) := by simp [List.getD, show d3.toNat < os.length by omega]
        have g2 : os.getD (1 + d2).toNat 0 = os[(1 + d2).toNat]'(by omega) := by simp [List.getD, show (1 + d2).toNat < os.length by omega]
        have i1 : os.idxOf (os.getD d3.toNat 0) = d3.toNat := by rw [g1]; exact hon.idxOf_getElem _ _
        have i2 : os.idxOf (os.getD (1 + d2).toNat 0) = (1 + d2).toNat := by rw [g2]; exact hon.idxOf_getElem _ _
        have b1 := hor _ (show os.getD d3.toNat 0 ∈ os by rw [g1]; exact List.getElem_mem _)
        have b2 := hor _ (show os.getD (1 + d2).toNat 0 ∈ os by rw [g2]; exact List.getElem_mem _)
        have htH : H t = none := by
          cases hh : H t with
          | none => rfl
          | some o => rw [(dr_of (E t o (dr_at htp.symm hh))).2] at ht; cases ht
        refine ⟨xs ++ [.ref t], ar ++ [(os.getD d3.toNat 0, os.getD (1 + d2).toNat 0)], some (.int i), some (.int (1 + d2)), ⟨rfl, rfl⟩, ?_, ?_, ?_, upd_same, ?_, by simp [hal], ?_⟩
        · intro b o hb
          obtain ⟨b1, b2⟩ := dr_of hb
          exact dr_at b1 (by rw [upd_ne (ne_of_none b2 hfH), upd_ne (ne_of_none b2 htH)]; exact (dr_of (E b o hb)).2)
        · obtain ⟨x', y', hpp, q'⟩ := pot7
          exact ⟨x', y', by rw [upd_ne hfp.symm, upd_ne htp]; exact hpp, q'⟩
        · rw [upd_ne hfo.symm, upd_ne (ne_of_none ho7 ht)]
          exact ho7
        · refine p2_snoc (p2_mono (fun v pr h => ?_) ha5) ⟨t, rfl, nw_at htH (by rw [upd_ne htf.symm]; exact upd_same)⟩
          obtain ⟨t', ev, ht'⟩ := h
          obtain ⟨u1, u2⟩ := nw_of (nw_dr_mono hpo (e6.trans e7) _ _ ht')
          refine ⟨t', ev, nw_at u1 ?_⟩
          rw [upd_ne (fun z => by rw [z, hf7] at u2; cases u2), upd_ne (ne_of_none u2 ht)]
          exact u2
        · intro pr hpr
          rcases List.mem_append.mp hpr with h | h
          · exact hok pr h
          · rcases List.mem_cons.mp h with h | h
            · subst h
              refine ⟨⟨b1.1, b1.2, b2.1, b2.2, fun z => ?_⟩, ?_⟩
              · have z' : os.getD d3.toNat 0 = os.getD (1 + d2).toNat 0 := z
                rw [z', i2] at i1
                omega
              · show ((os.idxOf (os.getD d3.toNat 0) : Nat) : Int) < ((os.idxOf (os.getD (1 + d2).toNat 0) : Nat) : Int)
                rw [i1, i2]
                omega
            · cases h
      · rintro σ H5 ⟨xs, ar, v7, v8, rfl, e5, pot5, ho5, hf5, ha5, hal, hok⟩
        walk_at "rd"
        refine ⟨Evl.sz_of (by decide), fun t ht => ?_⟩
        obtain ⟨po5, hpo5⟩ := pot5.some
        have htp : p ≠ t := ne_of_none hpo5 ht
        have htH : H t = none := by
          cases hh : H t with
          | none => rfl
          | some o => rw [(dr_of (e5 t o (dr_at htp.symm hh))).2] at ht; cases ht
        have e8 : Ex H5 (upd H5 t (.tup [.int n, .ref f])) := Evl.Ex.new ht
        refine k t n ar _ ⟨by omega, by omega, fun pr h => (hok pr h).1, ⟨fun z => (os.idxOf z : Int), fun pr h => (hok pr h).2⟩, by omega⟩ (by omega) (by omega) (by omega) (e5.trans (dr_mono e8)) (pot5.mono e8) ?_
        exact ⟨f, xs, nw_at htH upd_same, nw_at hfH (e8 _ _ hf5), ha5.mono (nw_mono (Evl.Ex.refl _) e8)⟩
    · rw [if_neg (by simpa using c1)]
      obtain ⟨c, hc⟩ : ∃ c : Int, c = 0 := ⟨0, rfl⟩
      rw [← hc, show Itr c c.toNat = Itr 0 c.toNat by rw [hc]]
      have hcn : 1 < n ∨ c = 0 := .inr hc
      have c0 : 0 ≤ c := by omega
      have cm' : c ≤ m := by omega
      have e4 : Ex (dr p (upd H2 f (.lst []))) (dr p (upd H2 f (.lst []))) := Evl.Ex.refl _
      have pot4 := pot3
      refine forR ⟨c0, by omega⟩ (fun i σ H5 => ∃ (xs : List V) (ar : List (Int × Int)) (v7 v8 : Option V), σ = [some (.ref p), some (.int lo), some (.int hi), some (.int m), some (.int n), some (.ref oq), some (.ref f), v7, v8] ∧ Ex (dr p H) (dr p H5) ∧ PotAt H5 p ∧
        H5 oq = some (.lst (os.map V.int)) ∧ H5 f = some (.lst xs) ∧ Ar (nw H H5) xs ar ∧ ar.length = i ∧ ∀ pr ∈ ar, OkAr n pr ∧ (os.idxOf pr.1 : Int) < (os.idxOf pr.2 : Int))
        ⟨[], [], none, none, rfl, e13.trans e4, pot4, dr_keep e4 hop hos3, dr_keep e4 hfp upd_same, .nil, rfl, fun pr h => by cases h⟩ ?_ ?_
      · rintro i σ H5 hi ⟨xs, ar, v7, v8, rfl, e5, pot5, ho5, hf5, ha5, hal, hok⟩
        have hn1 : 1 < n := by omega
        walk_at "rd"
        refine ⟨p, n - 1, rfl, pot5, by omega, by omega, fun d2 H6 d20 d21 e6 pot6 => ?_⟩
        walk_at "rd"
        have hf6 := dr_keep e6 hfp hf5
        have ho6 := dr_keep e6 hop ho5
        refine ⟨.inl ⟨rfl, _, sqL hf6⟩, p, 1 + d2, rfl, pot6, by omega, by omega, fun d3 H7 d30 d31 e7 pot7 => ?_⟩
        have hf7 := dr_keep e7 hfp hf6
        have ho7 := dr_keep e7 hop ho6
        obtain ⟨po7, hpo7⟩ := pot7.some
        refine ixL (sqL ho7) (at_ints d30 (by omega)) ?_
        refine ixL (sqL ho7) (at_ints (by omega) (by omega)) ?_
        walk_at "rd"
        refine ⟨Evl.sz_of (by decide), fun t ht => ?_⟩
        have htf : f ≠ t := ne_of_none hf7 ht
        have htp : p ≠ t := ne_of_none hpo7 ht
        have hxl := p2_len ha5
        refine ⟨f, xs, _, rfl, rfl, by rw [upd_ne htf]; exact hf7, Evl.sz_lt (by omega), ?_⟩
        have E := e5.trans (e6.trans e7)
        have g1 : os.getD d3.toNat 0 = os[d3.toNat]'(by omega) := by simp [List.getD, show d3.toNat < os.length by omega]
        have g2 : os.getD (1 + d2).toNat 0 = os[(1 + d2).toNat]'(by omega) := by simp [List.getD, show (1 + d2).toNat < os.length by omega]
        have i1 : os.idxOf (os.getD d3.toNat 0) = d3.toNat := by rw [g1]; exact hon.idxOf_getElem _ _
        have i2 : os.idxOf (os.getD (1 + d2).toNat 0) = (1 + d2).toNat := by rw [g2]; exact hon.idxOf_getElem _ _
        have b1 := hor _ (show os.getD d3.toNat 0 ∈ os by rw [g1]; exact List.getElem_mem _)
        have b2 := hor _ (show os.getD (1 + d2).toNat 0 ∈ os by rw [g2]; exact List.getElem_mem _)
        have htH : H t = none := by
          cases hh : H t with
          | none => rfl
          | some o => rw [(dr_of (E t o (dr_at htp.symm hh))).2] at ht; cases ht
        refine ⟨xs ++ [.ref t], ar ++ [(os.getD d3.toNat 0, os.getD (1 + d2).toNat 0)], some (.int i), some (.int (1 + d2)), ⟨rfl, rfl⟩, ?_, ?_, ?_, upd_same, ?_, by simp [hal], ?_⟩
        · intro b o hb
          obtain ⟨b1, b2⟩ := dr_of hb
          exact dr_at b1 (by rw [upd_ne (ne_of_none b2 hfH), upd_ne (ne_of_none b2 htH)]; exact (dr_of (E b o hb)).2)
        · obtain ⟨x', y', hpp, q'⟩ := pot7
          exact ⟨x', y', by rw [upd_ne hfp.symm, upd_ne htp]; exact hpp, q'⟩
        · rw [upd_ne hfo.symm, upd_ne (ne_of_none ho7 ht)]
          exact ho7
        · refine p2_snoc (p2_mono (fun v pr h => ?_) ha5) ⟨t, rfl, nw_at htH (by rw [upd_ne htf.symm]; exact upd_same)⟩
          obtain ⟨t', ev, ht'⟩ := h
          obtain ⟨u1, u2⟩ := nw_of (nw_dr_mono hpo (e6.trans e7) _ _ ht')
          refine ⟨t', ev, nw_at u1 ?_⟩
          rw [upd_ne (fun z => by rw [z, hf7] at u2; cases u2), upd_ne (ne_of_none u2 ht)]
          exact u2
        · intro pr hpr
          rcases List.mem_append.mp hpr with h | h
          · exact hok pr h
          · rcases List.mem_cons.mp h with h | h
            · subst h
              refine ⟨⟨b1.1, b1.2, b2.1, b2.2, fun z => ?_⟩, ?_⟩
              · have z' : os.getD d3.toNat 0 = os.getD (1 + d2).toNat 0 := z
                rw [z', i2] at i1
                omega
              · show ((os.idxOf (os.getD d3.toNat 0) : Nat) : Int) < ((os.idxOf (os.getD (1 + d2).toNat 0) : Nat) : Int)
                rw [i1, i2]
                omega
            · cases h
      · rintro σ H5 ⟨xs, ar, v7, v8, rfl, e5, pot5, ho5, hf5, ha5, hal, hok⟩
        walk_at "rd"
        refine ⟨Evl.sz_of (by decide), fun t ht => ?_⟩
        obtain ⟨po5, hpo5⟩ := pot5.some
        have htp : p ≠ t := ne_of_none hpo5 ht
        have htH : H t = none := by
          cases hh : H t with
          | none => rfl
          | some o => rw [(dr_of (e5 t o (dr_at htp.symm hh))).2] at ht; cases ht
        have e8 : Ex H5 (upd H5 t (.tup [.int n, .ref f])) := Evl.Ex.new ht
        refine k t n ar _ ⟨by omega, by omega, fun pr h => (hok pr h).1, ⟨fun z => (os.idxOf z : Int), fun pr h => (hok pr h).2⟩, by omega⟩ (by omega) (by omega) (by omega) (e5.trans (dr_mono e8)) (pot5.mono e8) ?_
        exact ⟨f, xs, nw_at htH upd_same, nw_at hfH (e8 _ _ hf5), ha5.mono (nw_mono (Evl.Ex.refl _) e8)⟩
theorem ok__law_row (T : Txt K mg) : FnOk P w K mg base CX0 2 T.a__law_row T.d__law_row ["pot", "places", "most"] sp__law_row := by
  refine T.F__law_row.ok sc_law_row (fun vs H Q E h => ?_) (fun cdv A outer s H vs Q E hr h => ?_)
  · obtain ⟨p, n, m, rfl, _⟩ := h; rfl
  · obtain ⟨p, n, m, rfl, pot, n0, n1, m0, m1, k⟩ := h
    refine ⟨_, (pss_cons (ps_set (i := 3) sc_law_row.nd rfl (Or.inl rfl) (pe_lst pa_nil))
        (pss_cons (ps_for PassesOwn.never rfl (pi_range1 rfl T.n_range (pa_cons (pv 1) pa_nil)) (pg_name (i := 4) sc_law_row.nd rfl (Or.inl rfl) (Or.inr rfl)) (pss_one (ps_expr (pe_bm PySem.F.plainAttrs_list PySem.F.slot_list_append PySem.F.type_list_append mt_append (pv 3) (pa_cons (pe_call (ok__law_draw T) (hr.mono (by decide)) rfl T.m__law_draw T.F__law_draw.kp T.b__law_draw .nil pass0 (pa_cons (pv 0) (pa_cons (pe_op op_add (pv 2) pe_int) pa_nil))) pa_nil)))))
        (pss_one (ps_ret (pv 3))))), ?_⟩
    obtain ⟨po, hpo⟩ := pot.some
    walk_at "rd"
    refine ⟨Evl.sz_of (by decide), fun f hf => ?_⟩
    have hfp : f ≠ p := fun z => by rw [z, hpo] at hf; cases hf
    have e1 : Ex H (upd H f (.lst [])) := Evl.Ex.new hf
    walk_at "rd"
    refine forR ⟨n0, by omega⟩ (WRow H p n m f)
      ⟨[], none, rfl, dr_mono e1, pot.mono e1, upd_same, rfl, fun z h => by cases h⟩ ?_ ?_
    · rintro i σ H5 hi ⟨ns, v4, rfl, e5, pot5, hf5, hl, hok⟩
      walk_at "rd"
      refine ⟨.inl ⟨rfl, _, sqL hf5⟩, p, m + 1, rfl, pot5, by omega, by omega, fun d H6 d0 d1 e6 pot6 => ?_⟩
      have hf6 := dr_keep e6 hfp hf5
      refine ⟨f, _, _, rfl, rfl, hf6, Evl.sz_lt (by rw [List.length_map]; omega), ?_⟩
      refine ⟨ns ++ [d], some (.int i), rfl, ?_, ?_, ?_, by simp [hl], fun z hz => ?_⟩
      · intro b o hb
        obtain ⟨b1, b2⟩ := dr_of hb
        exact dr_at b1 (by rw [upd_ne (ne_of_none b2 hf)]; exact (dr_of ((e5.trans e6) b o hb)).2)
      · obtain ⟨x', y', hpp, q'⟩ := pot6
        exact ⟨x', y', by rw [upd_ne hfp.symm]; exact hpp, q'⟩
      · rw [upd_same]; simp
      · rcases List.mem_append.mp hz with h | h
        · exact hok z h
        · rcases List.mem_cons.mp h with h | h
          · omega
          · cases h
    · rintro σ H5 ⟨ns, v4, rfl, e5, pot5, hf5, hl, hok⟩
      walk_at "rd"
      exact k f ns H5 (by omega) hok hf e5 pot5 hf5
end
end W18

set_option maxRecDepth 100000
set_option maxHeartbeats 4000000
namespace W18
open PySem L2 SB
local macro_rules | `(tactic| walk_at "rd") => `(tactic| first | simp only [rd_var, rd_c, rd_seq, rd_next, rd_ret, rd_retN, rd_drop, rd_asg, rd_op, rd_un, rd_call, rd_callK0, rd_cons, rd_nil, rd_cb, rd_test, rd_b, rd_andV, rd_orV, rd_notV, rd_and, rd_or, rd_not, rd_if, rd_ifS, rd_tup, rd_lst, rd_step, rd_wstep, rd_revL, rNotB_bl, rd_lcL, rd_lc2, rd_lcZ, rd_lcR, rd_forL, rd_forZ, rd_forR, rd_make, rd_meth, rd_sfld, rd_bm, rd_prop, rd_yes, rd_par, rd_name, wipe, rI0_int, rI_int, rEq_int, rNe_int, rEq_bl, rNe_bl, L2.start, List.map_cons, List.map_nil, List.length_cons, List.length_nil, Nat.zero_add, Nat.reduceAdd, Nat.reduceSub, List.replicate, List.getElem?_cons_zero, List.getElem?_cons_succ, List.set_cons_zero, List.set_cons_succ, Option.some.injEq, exists_eq_left', exists_eq_left, exists_and_left, V.int.injEq, V.bl.injEq, V.ref.injEq, List.append_nil, List.cons_append, List.nil_append, List.cons.injEq, and_true, true_and, if_true, if_false, Bool.not_true, Bool.not_false, Bool.false_eq_true, ↓reduceIte, reduceCtorEq, decide_true, decide_false, false_and, exists_false, or_false, exists_const] | skip)
section
variable {P : Program} {w : World} {K : PySem.W.Frag} {mg : Str → Option Value} {base : Heap}
theorem ok__law_below (T : Txt K mg) : FnOk P w K mg base CX0 1 T.a__law_below T.d__law_below ["row"] sp__law_below := by
  refine T.F__law_below.ok sc_law_below (fun vs H Q E h => ?_) (fun cdv A outer s H vs Q E hr h => ?_)
  · obtain ⟨a, ns, rfl, _⟩ := h; rfl
  · obtain ⟨a, ns, rfl, ia, hok, hnl, hprod, k⟩ := h
    refine ⟨_, (pss_cons (ps_set (i := 1) sc_law_below.nd rfl (Or.inl rfl) (pe_lst (pa_cons (pe_lst pa_nil) pa_nil)))
        (pss_cons (ps_for PassesOwn.never rfl (pi_list (pv 0)) (pg_name (i := 2) sc_law_below.nd rfl (Or.inl rfl) (Or.inr rfl)) (pss_cons (ps_set (i := 3) sc_law_below.nd rfl (Or.inl rfl) (pe_lst pa_nil))
        (pss_cons (ps_for PassesOwn.never rfl (pi_list (pv 1)) (pg_name (i := 4) sc_law_below.nd rfl (Or.inr rfl) (Or.inl rfl)) (pss_one (ps_expr (pe_bm PySem.F.plainAttrs_list PySem.F.slot_list_extend PySem.F.type_list_extend mt_extend (pv 3) (pa_cons (pe_lc (own := [("less", 5)]) rfl sc_law_below.nd (pi_range1 rfl T.n_range (pa_cons (pe_op op_add (pv 2) pe_int) pa_nil)) (blkOk_by (own := [("less", 5)]) (N := N_law_below) (sc := defScope s_law_below) (by decide +kernel)) (fun _ _ _ _ _ => (pg_name (i := 5) sc_law_below.nd rfl (Or.inl rfl) (Or.inr rfl))) (fun _ _ _ _ _ => pts_nil) (fun _ _ _ _ _ => (pe_op op_cat (pv 4) (pe_lst (pa_cons (pv 5) pa_nil))))) pa_nil)))))
        (pss_one (ps_set (i := 1) sc_law_below.nd rfl (Or.inl rfl) (pv 3))))))
        (pss_one (ps_ret (pv 1))))), ?_⟩
    walk_at "rd"
    refine ⟨Evl.sz_of (by decide), fun l0 hl0 => ⟨Evl.sz_of (by decide), fun q0 hq0 => ?_⟩⟩
    have e3 : Ex H (upd (upd H l0 (.lst [])) q0 (.lst [.ref l0])) := (Evl.Ex.new hl0).trans (Evl.Ex.new hq0)
    have hq0' : H q0 = none := Evl.fresh_back (Evl.Ex.new hl0) hq0
    have hl0q : l0 ≠ q0 := fun z => by rw [← z, upd_same] at hq0; cases hq0
    have hnn : ∀ z ∈ ns, 0 ≤ z := fun z hz => (hok z hz).1
    walk_at "rd"
    refine forA (e3 _ _ ia) (WBel H a ns) ⟨q0, none, none, none, rfl, e3, [.ref l0], nw_at hq0' upd_same, .cons ⟨l0, rfl, nw_at hl0 (by rw [upd_ne hl0q]; exact upd_same)⟩ .nil⟩ (fun i σ H' _ ⟨_, _, _, _, _, e, _⟩ => e _ _ ia) ?_ ?_
    · rintro j x σ H4 hj hx ⟨q, v2, v3, v4, rfl, e4, xs, hq, hrows⟩
      obtain ⟨z, hz, rfl⟩ := map_get hx
      have hz0 := hok z (List.mem_of_getElem? hz)
      have hpl := prod_le hnn j
      have hbl : ((belowM (ns.take j)).length : Int) = prodM (ns.take j) := below_len (ns.take j) [[]] 1 (fun y hy => hnn y (List.mem_of_mem_take hy)) rfl
      have hxl := p2_len hrows
      have hbr : ∀ r ∈ belowM (ns.take j), r.length ≤ 13 := fun r hr => by
        have h1 := below_rows (ns.take j) [[]] 0 (fun r hr => by rcases List.mem_cons.mp hr with e | e; (subst e; rfl); cases e) r hr
        have h2 : (ns.take j).length ≤ ns.length := by rw [List.length_take]; omega
        omega
      walk_at "rd"
      refine ⟨Evl.sz_of (by decide), fun g hg => ?_⟩
      have hgH : H g = none := Evl.fresh_back e4 hg
      have e5 : Ex H4 (upd H4 g (.lst [])) := Evl.Ex.new hg
      walk_at "rd"
      obtain ⟨hqH, hq4⟩ := nw_of hq
      have e45 : Ex H4 (dr g (upd H4 g (.lst []))) := by rw [dr_upd, dr_none hg]; exact Evl.Ex.refl _
      refine forA (e5 _ _ hq4) (WIn H a q g z (belowM (ns.take j)) xs) ⟨v4, [], rfl, e4.trans e45, e45 _ _ hq4, p2_mono (fun _ _ h => IsRow.mono (nw_mono (Evl.Ex.refl _) e45) h) hrows, upd_same, by rw [gB_zero]; exact .nil⟩ (fun i σ H' _ ⟨_, _, _, _, h, _⟩ => dr_ex _ _ h) ?_ ?_
      · rintro i x σ H5 hi hx2 ⟨v4', ys, rfl, e6, hq5, hr5, hg5, hy5⟩
        obtain ⟨b, hb, l, rfl, hl⟩ := p2_get hr5 hx2
        obtain ⟨hlH, hl5⟩ := nw_of hl
        have hgD : (belowM (ns.take j)).getD i [] = b := by simp [List.getD, hb]
        have hbl2 := hbr b (List.mem_of_getElem? hb)
        have e56 : Ex H H5 := e6.trans dr_ex
        walk_at "rd"
        refine ⟨.inl ⟨rfl, _, sqL hg5⟩, ?_⟩
        refine lcR (n := z + 1) (by omega) (fun j2 acc B => Paired (IsRow (nw H (dr g B))) acc (partB b j2)) (by simpa [partB] using Paired.nil) ?_ ?_
        · intro D j2 acc H6 hj2 hD hacc hal e7 hp
          have e57 : Ex H5 H6 := e7.trans dr_ex
          walk_at "rd"
          refine ⟨Evl.sz_of (by decide), fun m hm => ?_⟩
          refine ⟨l, m, b.map V.int, [.int (j2 : Int)], rfl, rfl, (Evl.Ex.new hm) _ _ (e57 _ _ (dr_ex _ _ hl5)), upd_same, Evl.sz_of (by simp; omega), fun t ht => ?_⟩
          have e8 : Ex H6 (upd (upd H6 m (.lst [.int (j2 : Int)])) t (.lst (b.map V.int ++ [.int (j2 : Int)]))) := (Evl.Ex.new hm).trans (Evl.Ex.new ht)
          have htm : H6 t = none := Evl.fresh_back (Evl.Ex.new hm) ht
          refine cw_put hacc hal (by omega) e7 e8 ?_
          rw [partB_succ]
          refine p2_snoc (p2_mono (fun _ _ h => IsRow.mono (nw_mono (Evl.Ex.refl _) (dr_mono (dr_mono e8))) h) hp) ⟨t, rfl, nw_at (Evl.fresh_back (e56.trans e57) htm) (dr_at (fun z => by rw [z, e57 _ _ hg5] at htm; cases htm) (dr_at (fun z => by rw [z, hacc] at htm; cases htm) ?_))⟩
          rw [upd_same]
          simp
        · intro D acc H6 hD hacc hal e7 hp
          have e57 : Ex H5 H6 := e7.trans dr_ex
          have hyl := p2_len hy5
          have hgl := gB_len (belowM (ns.take j)) (z + 1).toNat i 0
          have hmul : (belowM (ns.take j)).length * (z + 1).toNat ≤ 400 * 7 := Nat.mul_le_mul (by omega) (by omega)
          have hd57 : Ex (dr g H5) (dr g H6) := dr_mono e57
          refine ⟨g, D, ys, acc, rfl, rfl, e57 _ _ hg5, hacc, Evl.sz_of (by omega), ?_⟩
          refine ⟨some (.ref l), ys ++ acc, rfl, ?_, ?_, ?_, upd_same, ?_⟩
          · rw [dr_upd]; exact e6.trans hd57
          · rw [dr_upd]; exact hd57 _ _ hq5
          · rw [dr_upd]; exact p2_mono (fun _ _ h => IsRow.mono (nw_mono (Evl.Ex.refl _) hd57) h) hr5
          · rw [dr_upd, gB_next _ _ _ (by have := p2_len hr5; omega)]
            unfold gB at hy5 ⊢
            rw [hgD] at hy5 ⊢
            refine p2_app (p2_mono (fun _ _ h => IsRow.mono (nw_mono (Evl.Ex.refl _) hd57) h) ?_) (p2_mono (fun _ _ h => IsRow.mono (nw_mono (Evl.Ex.refl _) (dr_mono dr_ex)) h) hp)
            simpa [partB] using hy5
      · rintro σ H5 ⟨v4', ys, rfl, e6, hq5, hr5, hg5, hy5⟩
        walk_at "rd"
        refine ⟨g, some (.int z), some (.ref g), v4', rfl, e6.trans dr_ex, ys, nw_at hgH hg5, ?_⟩
        rw [below_take hz, ← gB_end, ← hxl]
        exact p2_mono (fun _ _ h => IsRow.mono (nw_mono (Evl.Ex.refl _) dr_ex) h) hy5
    · rintro σ H4 ⟨q, v2, v3, v4, rfl, e4, hll⟩
      rw [List.length_map, List.take_length] at hll
      walk_at "rd"
      exact k H4 q e4 hll
theorem ok__law_other (T : Txt K mg) : FnOk P w K mg base CX0 4 T.a__law_other T.d__law_other ["pot", "places", "arrows"] sp__law_other := by
  refine T.F__law_other.ok sc_law_other (fun vs H Q E h => ?_) (fun cdv A outer s H vs Q E hr h => ?_)
  · obtain ⟨p, a, n, xs, ar, rfl, _⟩ := h; rfl
  · obtain ⟨p, a, n, xs, ar, rfl, pot, hxs, har, G, n12, k⟩ := h
    refine ⟨_, (pss_cons (ps_set (i := 3) sc_law_other.nd rfl (Or.inl rfl) (pe_call (ok__law_draw T) (hr.mono (by decide)) rfl T.m__law_draw T.F__law_draw.kp T.b__law_draw .nil pass0 (pa_cons (pv 0) (pa_cons pe_int pa_nil))))
        (pss_cons (ps_if (pt_cmpR op_eq (pv 3) pe_int (nomark _)) (pss_one (ps_ret (pe_tup (pa_cons (pv 1) (pa_cons (pe_callTy call_list_of (by rfl) T.n_list (by decide +kernel) (pa_cons (pv 2) pa_nil)) pa_nil))))) pss_nil)
        (pss_cons (ps_if (pt_cmpR op_eq (pv 3) pe_int (nomark _)) (pss_one (ps_ret (pe_tup (pa_cons (pv 1) (pa_cons (pe_revL (pv 2)) pa_nil))))) pss_nil)
        (pss_cons (ps_if (pt_cmpR op_eq (pv 3) pe_int (nomark _)) (pss_one (ps_ret (pe_tup (pa_cons (pv 1) (pa_cons (pe_slice sl_list (pv 2) (po_some pe_int) po_none) pa_nil))))) pss_nil)
        (pss_cons (ps_if (pt_cmpR op_eq (pv 3) pe_int (nomark _)) (pss_one (ps_ret (pe_tup (pa_cons (pe_op op_add (pv 1) pe_int) (pa_cons (pe_callTy call_list_of (by rfl) T.n_list (by decide +kernel) (pa_cons (pv 2) pa_nil)) pa_nil))))) pss_nil)
        (pss_cons (ps_if (pt_cmpR op_eq (pv 3) pe_int (nomark _)) (pss_one (ps_ret (pe_tup (pa_cons (pv 1) (pa_cons (pe_lc (own := [("tail", 4), ("head", 5)]) rfl sc_law_other.nd (pi_list (pv 2)) (blkOk_by (own := [("tail", 4), ("head", 5)]) (N := N_law_other) (sc := defScope s_law_other) (by decide +kernel)) (fun _ _ _ _ _ => (show PG _ _ (gTup K 2 (gCons (gName 4) (gCons (gName 5) gNil))) from pg_tup rfl (pgs_cons (pg_name (i := 4) sc_law_other.nd rfl (Or.inl rfl) (Or.inr rfl)) (pgs_cons (pg_name (i := 5) sc_law_other.nd rfl (Or.inl rfl) (Or.inr rfl)) pgs_nil)))) (fun _ _ _ _ _ => pts_nil) (fun _ _ _ _ _ => (pe_tup (pa_cons (pv 5) (pa_cons (pv 4) pa_nil))))) pa_nil))))) pss_nil)
        (pss_one (ps_ret (pe_call (ok__law_web T) (hr.mono (by decide)) rfl T.m__law_web T.F__law_web.kp T.b__law_web .nil pass0 (pa_cons (pv 0) (pa_cons pe_int (pa_cons pe_int (pa_cons pe_int pa_nil))))))))))))), ?_⟩
    walk_at "rd"
    refine ⟨p, 6, rfl, pot, by decide, by decide, fun d H1 d0 d1 e1 pot1 => ?_⟩
    obtain ⟨po1, hpo1⟩ := pot1.some
    have hap := (dr_of hxs).1
    have h1a : H1 a = some (.lst xs) := dr_ex _ _ (e1 _ _ hxs)
    have har1 : Ar (dr p H1) xs ar := har.mono e1
    have hlen := p2_len har
    -- a new list and a new tuple of it
    have fin : ∀ (n' : Int) (ys : List V) (ar' : List (Int × Int)) (H2 : Hp) (l t : Addr), Good n' ar' → Ex H1 H2 → Ar (dr p H2) ys ar' → H1 l = none → H2 l = some (.lst ys) → H2 t = none → Q (.ref t) (upd H2 t (.tup [.int n', .ref l])) := fun n' ys ar' H2 l t G' e2 hy hl0 hl ht => by
      have hlp : l ≠ p := fun z => by rw [z, hpo1] at hl0; cases hl0
      have htp : t ≠ p := fun z => by rw [z, e2 _ _ hpo1] at ht; cases ht
      have e3 : Ex H2 (upd H2 t (.tup [.int n', .ref l])) := Evl.Ex.new ht
      exact k t n' ar' _ G' (e1.trans (dr_mono (e2.trans e3))) (pot1.mono (e2.trans e3)) ⟨l, ys, dr_at htp upd_same, dr_at hlp (e3 _ _ hl), hy.mono (dr_mono e3)⟩
    walk_at "rd"
    by_cases c0 : d = 0
    · rw [if_pos (by simpa using c0)]
      refine ⟨xs, .inl (sqL h1a), fun l hl => ⟨Evl.sz_of (by decide), fun t ht => ?_⟩⟩
      exact fin n xs ar _ l t G (Evl.Ex.new hl) (har1.mono (dr_new hl)) hl upd_same ht
    rw [if_neg (by simpa using c0)]
    walk_at "rd"
    by_cases c1 : d = 1
    · rw [if_pos (by simpa using c1)]
      refine ⟨xs, sqL h1a, fun l hl => ⟨Evl.sz_of (by decide), fun t ht => ?_⟩⟩
      exact fin n xs.reverse ar.reverse _ l t (good_sub G (fun p hp => List.mem_reverse.mp hp) (by simp)) (Evl.Ex.new hl) (p2_rev (har1.mono (dr_new hl))) hl upd_same ht
    rw [if_neg (by simpa using c1)]
    walk_at "rd"
    by_cases c2 : d = 2
    · rw [if_pos (by simpa using c2)]
      refine ⟨_, rfl, 1, rfl, a, xs, rfl, sqL h1a, fun l hl => ⟨Evl.sz_of (by decide), fun t ht => ?_⟩⟩
      rw [cut1]
      exact fin n (xs.drop 1) (ar.drop 1) _ l t (good_sub G (fun p hp => List.mem_of_mem_drop hp) (by simp)) (Evl.Ex.new hl) (p2_drop 1 (har1.mono (dr_new hl))) hl upd_same (by rw [← cut1]; exact ht)
    rw [if_neg (by simpa using c2)]
    walk_at "rd"
    by_cases c3 : d = 3
    · rw [if_pos (by simpa using c3)]
      refine ⟨xs, .inl (sqL h1a), fun l hl => ⟨Evl.sz_of (by decide), fun t ht => ?_⟩⟩
      exact fin (n + 1) xs ar _ l t (good_more G n12) (Evl.Ex.new hl) (har1.mono (dr_new hl)) hl upd_same ht
    rw [if_neg (by simpa using c3)]
    walk_at "rd"
    by_cases c4 : d = 4
    · rw [if_pos (by simpa using c4)]
      refine lcA h1a (fun i acc B => Ar (nw H1 B) acc ((ar.take i).map fun p => (p.2, p.1))) .nil ?_ ?_
      · intro D i x acc H3 hi hx hD hacc hl3 e3 hp
        obtain ⟨pr, hpr, ipr⟩ := p2_get har1 hx
        have e0 : Ex H1 H3 := e3.trans dr_ex
        refine gPr (ipr.mono (dr_ex.trans e0)) ?_
        walk_at "rd"
        refine ⟨Evl.sz_of (by decide), fun t ht => ?_⟩
        refine cw_put hacc hl3 (by have := G.len; omega) e3 (Evl.Ex.new ht) ?_
        rw [List.take_add_one, hpr, List.map_append]
        exact p2_snoc (hp.mono (nw_mono (Evl.Ex.refl _) (dr_new ht))) ⟨t, rfl, nw_at (Evl.fresh_back e0 ht) (dr_at (fun z => by rw [z, hacc] at ht; cases ht) upd_same)⟩
      · intro D acc H3 hD hacc hl3 e3 hp
        rw [hlen, List.take_length] at hp
        walk_at "rd"
        refine ⟨Evl.sz_of (by decide), fun t ht => ?_⟩
        exact fin n acc (ar.map fun p => (p.2, p.1)) _ D t (good_swap G) (e3.trans dr_ex) ((hp.mono (nw_mono (Evl.Ex.refl _) dr_ex)).mono (nw_dr hpo1)) hD hacc ht
    rw [if_neg (by simpa using c4)]
    walk_at "rd"
    refine ⟨p, 1, 4, 4, rfl, pot1, by decide, by decide, by decide, by decide, by decide, fun t n' ar' H2 G' _ _ _ e2 pot2 hpa => ?_⟩
    exact k t n' ar' H2 G' (e1.trans e2) pot2 (hpa.mono (nw_dr hpo1))
end
end W18

set_option maxRecDepth 100000
set_option maxHeartbeats 4000000
namespace W18
open PySem L2 SB
local macro_rules | `(tactic| walk_at "rd") => `(tactic| first | simp only [rd_var, rd_c, rd_seq, rd_next, rd_ret, rd_retN, rd_drop, rd_asg, rd_op, rd_un, rd_call, rd_callK0, rd_cons, rd_nil, rd_cb, rd_test, rd_b, rd_andV, rd_orV, rd_notV, rd_and, rd_or, rd_not, rd_if, rd_ifS, rd_tup, rd_lst, rd_step, rd_wstep, rd_revL, rNotB_bl, rd_lcL, rd_lc2, rd_lcZ, rd_lcR, rd_forL, rd_forZ, rd_forR, rd_make, rd_meth, rd_sfld, rd_bm, rd_prop, rd_yes, rd_par, rd_name, wipe, rI0_int, rI_int, rEq_int, rNe_int, rEq_bl, rNe_bl, L2.start, List.map_cons, List.map_nil, List.length_cons, List.length_nil, Nat.zero_add, Nat.reduceAdd, Nat.reduceSub, List.replicate, List.getElem?_cons_zero, List.getElem?_cons_succ, List.set_cons_zero, List.set_cons_succ, Option.some.injEq, exists_eq_left', exists_eq_left, exists_and_left, V.int.injEq, V.bl.injEq, V.ref.injEq, List.append_nil, List.cons_append, List.nil_append, List.cons.injEq, and_true, true_and, if_true, if_false, Bool.not_true, Bool.not_false, Bool.false_eq_true, ↓reduceIte, reduceCtorEq, decide_true, decide_false, false_and, exists_false, or_false, exists_const] | skip)
section
variable {P : Program} {w : World} {K : PySem.W.Frag} {mg : Str → Option Value} {base : Heap}
theorem ok__law_parts_right (T : Txt K mg) : FnOk P w K mg base CX0 7 T.a__law_parts_right T.d__law_parts_right ["web", "row", "other"] (sp__law_parts_right T.C_Web) := by
  refine T.F__law_parts_right.ok sc_law_parts_right (fun vs H Q E h => ?_) (fun cdv A outer s H vs Q E hr h => ?_)
  · obtain ⟨p, a, b, n, ar, ns, ms, rfl, _⟩ := h; rfl
  · obtain ⟨p, a, b, n, ar, ns, ms, rfl, web, G, ia, Ra, hprod, ib, Rb, k⟩ := h
    refine ⟨_, (pss_cons (ps_set (i := 3) sc_law_parts_right.nd rfl (Or.inl rfl) (pe_call (ok__law_below T) (hr.mono (by decide)) rfl T.m__law_below T.F__law_below.kp T.b__law_below .nil pass0 (pa_cons (pv 1) pa_nil)))
        (pss_cons (ps_set (i := 4) sc_law_parts_right.nd rfl (Or.inl rfl) (pe_call (ok_rows_below T) (hr.mono (by decide)) rfl T.m_rows_below T.F_rows_below.kp T.b_rows_below .nil pass0 (pa_cons (pv 0) (pa_cons (pv 1) pa_nil))))
        (pss_cons (ps_if (PW.pt (pw_or (pt_cmpR (op_neD hr.units) (pv 4) (pv 3) (nomark _)) (pw_or1 (pt_cmpR (op_neD hr.units) (pe_callK0 (ok_rows_below T) (hr.mono (by decide)) rfl T.m_rows_below T.F_rows_below.kp T.kb_rows_below_row_web pass0 (pk_cons (pe_callTy call_tuple_of (by rfl) T.n_tuple (by decide +kernel) (pa_cons (pv 1) pa_nil)) (pk_cons (pv 0) pk_nil))) (pv 3) (nomark _))))) (pss_one (ps_ret pe_bl)) pss_nil)
        (pss_cons (ps_if (pt_cmpR (op_neD hr.units) (pe_lc (own := [("part", 5)]) rfl sc_law_parts_right.nd (pi_list (pv 4)) (blkOk_by (own := [("part", 5)]) (N := N_law_parts_right) (sc := defScope s_law_parts_right) (by decide +kernel)) (fun _ _ _ _ _ => (pg_name (i := 5) sc_law_parts_right.nd rfl (Or.inl rfl) (Or.inr rfl))) (fun _ _ _ _ _ => (pts_one (pt_cmpR op_notBl (pe_call (ok_is_row T) (hr.mono (by decide)) rfl T.m_is_row T.F_is_row.kp T.b_is_row .nil pass0 (pa_cons (pv 0) (pa_cons (pv 5) pa_nil))) pe_bl (nomark _)))) (fun _ _ _ _ _ => (pv 5))) (pe_lst pa_nil) (nomark _)) (pss_one (ps_ret pe_bl)) pss_nil)
        (pss_cons (ps_set (i := 6) sc_law_parts_right.nd rfl (Or.inl rfl) (pe_call (ok_form T) (hr.mono (by decide)) rfl T.m_form T.F_form.kp T.b_form .nil pass0 (pa_cons (pv 0) (pa_cons (pv 1) (pa_cons (pv 2) pa_nil)))))
        (pss_cons (ps_for PassesOwn.never rfl (pi_list (SB.pe_stepL (pv 4) (pe_op op_add pe_int (pe_op op_fdiv (pe_callB call_len_seq (by rfl) T.n_len (by decide +kernel) (pa_cons (pv 4) pa_nil)) pe_int)))) (pg_name (i := 5) sc_law_parts_right.nd rfl (Or.inl rfl) (Or.inr rfl)) (pss_cons (ps_setLc (i := 7) (own := [("size", 8), ("less", 9)]) rfl sc_law_parts_right.nd rfl rfl (sw_true rfl rfl rfl (by decide +kernel)) (pi_zip (by rfl) T.n_zip (pa_cons (pv 1) (pa_cons (pv 5) pa_nil))) (blkOk_by (own := [("size", 8), ("less", 9)]) (N := N_law_parts_right) (sc := defScope s_law_parts_right) (by decide +kernel)) (fun _ _ _ _ _ => (show PG _ _ (gTup K 2 (gCons (gName 8) (gCons (gName 9) gNil))) from pg_tup rfl (pgs_cons (pg_name (i := 8) sc_law_parts_right.nd rfl (Or.inl rfl) (Or.inr rfl)) (pgs_cons (pg_name (i := 9) sc_law_parts_right.nd rfl (Or.inl rfl) (Or.inr rfl)) pgs_nil)))) (fun _ _ _ _ _ => pts_nil) (fun _ _ _ _ _ => (pe_op op_sub (pv 8) (pv 9))))
        (pss_one (ps_if (pt_cmpR op_ne (pe_op op_add (pe_call (ok_form T) (hr.mono (by decide)) rfl T.m_form T.F_form.kp T.b_form .nil pass0 (pa_cons (pv 0) (pa_cons (pv 5) (pa_cons (pv 2) pa_nil)))) (pe_call (ok_form T) (hr.mono (by decide)) rfl T.m_form T.F_form.kp T.b_form .nil pass0 (pa_cons (pv 0) (pa_cons (pv 7) (pa_cons (pv 2) pa_nil))))) (pv 6) (nomark _)) (pss_one (ps_ret pe_bl)) pss_nil))))
        (pss_cons (ps_expr (pe_bm PySem.F.plainAttrs_list PySem.F.slot_list_append PySem.F.type_list_append mt_append (pe_ix ix_list (pv 4) pe_int (fun _ _ => rfl)) (pa_cons pe_non pa_nil)))
        (pss_cons (ps_expr (pe_bm PySem.F.plainAttrs_list PySem.F.slot_list_append PySem.F.type_list_append mt_append (pv 4) (pa_cons (pe_lst pa_nil) pa_nil)))
        (pss_one (ps_ret (pe_cmpR (op_eqD hr.units) (pe_call (ok_rows_below T) (hr.mono (by decide)) rfl T.m_rows_below T.F_rows_below.kp T.b_rows_below .nil pass0 (pa_cons (pv 0) (pa_cons (pv 1) pa_nil))) (pv 3) (nomark _)))))))))))), ?_⟩
    have hnn : ∀ z ∈ ns, 0 ≤ z := fun z hz => (Ra.ok z hz).1
    have hrl : ((belowM ns).length : Int) = prodM ns := below_len ns [[]] 1 hnn rfl
    have hr1 : 1 ≤ prodM ns := prod_pos ns 1 (by decide) hnn
    have ra1 := Ra.len
    have ra2 := Ra.nb
    walk_at "rd"
    refine ⟨a, ns, rfl, ia, Ra.ok, by omega, hprod, fun H1 qd e1 ll1 => ?_⟩
    walk_at "rd"
    refine ⟨p, a, n, ar, ns, rfl, web.mono e1, .inl (e1 _ _ ia), Ra, hprod, fun H2 qt e2 ll2 => ?_⟩
    walk_at "rd"
    have hdue : ∀ {Hx : Hp}, Ex H1 Hx → Dp K Hx (.ref qd) (dRows (belowM ns)) := fun e => dp_rows (ll1.mono (nw_ex.trans e))
    refine neD (dp_rows (ll2.mono nw_ex)) (hdue e2) (dRows_sh _) (dRows_sh _) ?_
    rw [dRows_eqv, decide_eq_true rfl]
    walk_at "rd"
    refine ⟨_, .inl ⟨sqL (e2 _ _ (e1 _ _ ia)), fun l hl => ?_⟩⟩
    have e3 : Ex H2 (upd H2 l (.tup (ns.map V.int))) := Evl.Ex.new hl
    have e13 : Ex H1 (upd H2 l (.tup (ns.map V.int))) := e2.trans e3
    refine ⟨p, l, n, ar, ns, rfl, (web.mono e1).mono e13, .inr upd_same, Ra, hprod, fun H3 q3 e4 ll3 => ?_⟩
    have e14 : Ex H1 H3 := e13.trans e4
    refine neD (dp_rows (ll3.mono nw_ex)) (hdue e14) (dRows_sh _) (dRows_sh _) ?_
    rw [dRows_eqv, decide_eq_true rfl]
    walk_at "rd"
    obtain ⟨xs, hxs, hrows⟩ := ll2
    obtain ⟨hqt1, hqt2⟩ := nw_of hxs
    have e23 : Ex H2 H3 := e3.trans e4
    have hxl := p2_len hrows
    refine lcA (e23 _ _ hqt2) (fun i acc _ => acc = []) rfl ?_ ?_
    · intro D i x acc H4 hi hx hD hacc hal e5 hp
      obtain ⟨r, hr, l', rfl, hl'⟩ := p2_get hrows hx
      have e34 : Ex H3 H4 := e5.trans dr_ex
      have hle := belowM_le (List.mem_of_getElem? hr)
      walk_at "rd"
      refine ⟨p, l', n, ar, r, rfl, (web.mono e1).mono (e14.trans e34), .inl (e34 _ _ (e23 _ _ (nw_of hl').2)), (rowOk_below Ra hle).1, fun H5 e6 => ?_⟩
      walk_at "rd"
      exact cw_skip hacc hal e5 e6 hp
    intro D acc H4 hD hacc hal e5 hp
    have e34 : Ex H3 H4 := e5.trans dr_ex
    walk_at "rd"
    refine ⟨Evl.sz_of (by decide), fun l2 hl2 => ?_⟩
    have e45 : Ex H4 (upd H4 l2 (.lst [])) := Evl.Ex.new hl2
    refine neD (dp_is (ns := []) (e45 _ _ (by rw [hacc, hp]; rfl))) (dp_is (ns := []) upd_same) (dIs_sh _) (dIs_sh _) ?_
    rw [dIs_eqv, decide_eq_true rfl]
    walk_at "rd"
    have e15 : Ex H1 (upd H4 l2 (.lst [])) := e14.trans (e34.trans e45)
    refine ⟨p, a, b, n, ar, ns, ms, rfl, (web.mono e1).mono e15, G.inn, G.len, e15 _ _ (e1 _ _ ia), Ra, e15 _ _ (e1 _ _ ib), Rb, fun H6 e6 => ?_⟩
    have e16 : Ex H1 H6 := e15.trans e6
    have e26 : Ex H2 H6 := e23.trans (e34.trans (e45.trans e6))
    walk_at "rd"
    refine ⟨_, .inl (sqL (e26 _ _ hqt2)), ⟨by decide, by decide⟩, by omega, xs, sqL (e26 _ _ hqt2), fun ys lq hys hyl hlq => ?_⟩
    have e67 : Ex H6 (upd H6 lq (.lst ys)) := Evl.Ex.new hlq
    have e17 : Ex H1 (upd H6 lq (.lst ys)) := e16.trans e67
    refine forA upd_same (fun i σ H7 => ∃ v5 v7 : Option V, σ = [some (.ref p), some (.ref a), some (.ref b), some (.ref qd), some (.ref qt), v5, some (.int (formM ar ns ms)), v7, none, none] ∧ Ex (upd H6 lq (.lst ys)) H7) ⟨_, _, rfl, Evl.Ex.refl _⟩ (fun i σ H7 _ ⟨_, _, _, e⟩ => e _ _ upd_same) ?_ ?_
    · rintro i x σ H7 hi hx ⟨v5, v7, rfl, e7⟩
      obtain ⟨r, hr, l', rfl, hl'⟩ := p2_mem hrows (hys x (List.mem_of_getElem? hx))
      have hle := belowM_le hr
      obtain ⟨R1, R2⟩ := rowOk_below Ra hle
      have r1l := R1.len
      have e27 : Ex H2 H7 := e26.trans (e67.trans e7)
      have e18 : Ex H1 H7 := e17.trans e7
      have hl7 := e27 _ _ (nw_of hl').2
      walk_at "rd"
      refine lcZ (e18 _ _ (e1 _ _ ia)) hl7 (by simp; omega) (fun i acc _ => acc = (((ns.zip r).take i).map fun q => q.1 - q.2).map V.int) rfl ?_ ?_
      · intro D i x y acc H8 t hi hx hy hD hacc hal e8 hp ht
        obtain ⟨z1, hz1, rfl⟩ := map_get hx
        obtain ⟨z2, hz2, rfl⟩ := map_get hy
        refine gPr (p := (z1, z2)) ⟨t, rfl, upd_same⟩ ?_
        walk_at "rd"
        refine cw_put hacc hal (by simp at hi; omega) e8 (Evl.Ex.new ht) ?_
        rw [hp, List.take_add_one, zip_get hz1 hz2]
        simp
      · intro D acc H8 hD hacc hal e8 hp
        have e78 : Ex H7 H8 := e8.trans dr_ex
        have e19 : Ex H1 H8 := e18.trans e78
        have hzl : (ns.zip r).length = ns.length := by rw [List.length_zip]; omega
        have hsub : H8 D = some (.lst ((subM ns r).map V.int)) := by
          rw [hacc, hp, List.length_map, ← hzl, List.take_length]; rfl
        walk_at "rd"
        refine ⟨p, l', b, n, ar, r, ms, rfl, (web.mono e1).mono e19, G.inn, G.len, e78 _ _ hl7, R1, e19 _ _ (e1 _ _ ib), Rb, fun H9 e9 => ?_⟩
        refine ⟨p, D, b, n, ar, subM ns r, ms, rfl, (web.mono e1).mono (e19.trans e9), G.inn, G.len, e9 _ _ hsub, R2, e9 _ _ (e19 _ _ (e1 _ _ ib)), Rb, fun H10 e10 => ?_⟩
        walk_at "rd"
        rw [decide_eq_true (form_add ar ms hle)]
        walk_at "rd"
        exact ⟨_, _, ⟨rfl, rfl⟩, e7.trans (e78.trans (e9.trans e10))⟩
    · rintro σ H7 ⟨v5, v7, rfl, e7⟩
      have e27 : Ex H2 H7 := e26.trans (e67.trans e7)
      have e18 : Ex H1 H7 := e17.trans e7
      obtain ⟨x0, hx0⟩ : ∃ x0, xs[0]? = some x0 := ⟨xs[0]'(by omega), by rw [List.getElem?_eq_getElem]⟩
      obtain ⟨r0, hr0, l0, rfl, hl0⟩ := p2_get hrows hx0
      obtain ⟨hl01, hl02⟩ := nw_of hl0
      have hne : qt ≠ l0 := fun z => by
        rw [z, hl02] at hqt2
        have e : r0.map V.int = xs := by injection (Option.some.inj hqt2)
        rw [← e] at hx0
        obtain ⟨y, _, hy⟩ := map_get hx0
        cases hy
      walk_at "rd"
      refine ixL (sqL (e27 _ _ hqt2)) (at_of (j := 0) rfl hx0) ?_
      refine ⟨.inl ⟨rfl, _, sqL (e27 _ _ hl02)⟩, l0, _, _, rfl, rfl, e27 _ _ hl02, Evl.sz_lt (by
        have := (rowOk_below Ra (belowM_le (List.mem_of_getElem? hr0))).1.len
        rw [List.length_map]; omega), ?_⟩
      have hqt7 : (upd H7 l0 (.lst (r0.map V.int ++ [.non]))) qt = some (.lst xs) := by rw [upd_ne hne]; exact e27 _ _ hqt2
      have e1a : Ex H1 (upd H7 l0 (.lst (r0.map V.int ++ [.non]))) := Evl.Ex.mut e18 hl01
      refine ⟨.inl ⟨rfl, _, sqL hqt7⟩, Evl.sz_of (by decide), fun l3 hl3 => ?_⟩
      have e1b := e1a.trans (Evl.Ex.new (o := .lst []) hl3)
      refine ⟨qt, _, _, rfl, rfl, (Evl.Ex.new hl3) _ _ hqt7, Evl.sz_lt (by omega), ?_⟩
      have e1c := Evl.Ex.mut (o := .lst (xs ++ [.ref l3])) e1b hqt1
      walk_at "rd"
      refine ⟨p, a, n, ar, ns, rfl, (web.mono e1).mono e1c, .inl (e1c _ _ (e1 _ _ ia)), Ra, hprod, fun H8 q8 e8 ll8 => ?_⟩
      refine eqD (dp_rows (ll8.mono nw_ex)) (hdue (e1c.trans e8)) (dRows_sh _) (dRows_sh _) ?_
      rw [dRows_eqv, decide_eq_true rfl]
      exact k H8 (e1.trans (e1c.trans e8))
theorem ok__law_alike_right (T : Txt K mg) : FnOk P w K mg base CX0 8 T.a__law_alike_right T.d__law_alike_right ["web", "places", "arrows", "told"] (sp__law_alike_right T.C_Web) := by
  refine T.F__law_alike_right.ok sc_law_alike_right (fun vs H Q E h => ?_) (fun cdv A outer s H vs Q E hr h => ?_)
  · obtain ⟨p, a, t, n, xs, ar, n2, ar2, rfl, _⟩ := h; rfl
  · obtain ⟨p, a, t, n, xs, ar, n2, ar2, rfl, web, G, hxs, har, pa, G2, k⟩ := h
    refine ⟨_, (pss_cons (ps_set (i := 4) sc_law_alike_right.nd rfl (Or.inl rfl) (pe_make T.mk_Web (ok_Web__init_ T) (hr.mono (by decide)) rfl T.m_Web T.b_Web__init_ .nil pass0 (pa_cons (pe_ix ix_tup (pv 3) pe_int (fun _ _ => rfl)) (pa_cons (pe_ix ix_tup (pv 3) pe_int (fun _ _ => rfl)) pa_nil))))
        (pss_cons (ps_set (i := 5) sc_law_alike_right.nd rfl (Or.inl rfl) (pe_cmpR (op_eqD hr.units) (pe_tup (pa_cons (pv 1) (pa_cons (pv 2) pa_nil))) (pv 3) (nomark _)))
        (pss_cons (ps_if (PW.pt (pw_or (pt_cmpR op_ne (pe_cmpR (show OpR _ _ (rEqOwn K T.C_Web (sp_Web__eq_ T.C_Web) E0) from SB.op_eqOwn (ok_Web__eq_ T) (hr.mono (by decide)) T.eq_Web T.fe_Web T.b_Web__eq_ pass0) (pv 0) (pv 4) (nomark _)) (pv 5) (nomark _)) (pw_or1 (pt_cmpR op_ne (pe_cmpR (show OpR _ _ (rEqOwn K T.C_Web (sp_Web__eq_ T.C_Web) E0) from SB.op_eqOwn (ok_Web__eq_ T) (hr.mono (by decide)) T.eq_Web T.fe_Web T.b_Web__eq_ pass0) (pv 4) (pv 0) (nomark _)) (pv 5) (nomark _))))) (pss_one (ps_ret pe_bl)) pss_nil)
        (pss_cons (ps_if (pt_cmpR op_ne (pe_cmpR (show OpR _ _ (rEqOwn K T.C_Web (sp_Web__eq_ T.C_Web) E0) from SB.op_eqOwn (ok_Web__eq_ T) (hr.mono (by decide)) T.eq_Web T.fe_Web T.b_Web__eq_ pass0) (pe_call (ok_turned_web T) (hr.mono (by decide)) rfl T.m_turned_web T.F_turned_web.kp T.b_turned_web .nil pass0 (pa_cons (pv 0) pa_nil)) (pe_call (ok_turned_web T) (hr.mono (by decide)) rfl T.m_turned_web T.F_turned_web.kp T.b_turned_web .nil pass0 (pa_cons (pv 4) pa_nil)) (nomark _)) (pv 5) (nomark _)) (pss_one (ps_ret pe_bl)) pss_nil)
        (pss_one (ps_ret (pe_cmpR (op_eqD hr.units) (pe_lc (own := [("value", 6)]) rfl sc_law_alike_right.nd (pi_list (pe_lst (pa_cons (pv 2) (pa_cons (pe_tup (pa_cons (pv 1) (pa_cons (pv 2) pa_nil))) (pa_cons (pv 1) (pa_cons pe_non pa_nil)))))) (blkOk_by (own := [("value", 6)]) (N := N_law_alike_right) (sc := defScope s_law_alike_right) (by decide +kernel)) (fun _ _ _ _ _ => (pg_name (i := 6) sc_law_alike_right.nd rfl (Or.inl rfl) (Or.inr rfl))) (fun _ _ _ _ _ => (pts_one (pt_cmpR (show OpR _ _ (rEqOwn K T.C_Web (sp_Web__eq_ T.C_Web) E0) from SB.op_eqOwn (ok_Web__eq_ T) (hr.mono (by decide)) T.eq_Web T.fe_Web T.b_Web__eq_ pass0) (pv 0) (pv 6) (nomark _)))) (fun _ _ _ _ _ => (pv 6))) (pe_lst pa_nil) (nomark _)))))))), ?_⟩
    obtain ⟨l2, ys, ht, hl2, har2⟩ := id pa
    walk_at "rd"
    refine ixT (sqT ht) (at_of (j := 0) rfl rfl) ?_
    refine ixT (sqT ht) (at_of (j := 1) rfl rfl) ?_
    intro x dx hx hdx hne
    have em : Ex H (upd (upd H dx (.own x)) x (.ins T.C_Web dx [])) := made_ex hx hdx
    refine ⟨x, dx, n2, l2, ys, ar2, rfl, upd_same, .inl (em _ _ hl2), har2.mono em, G2, fun H1 q zs hq e hx1 hq1 hz => ⟨rfl, ?_⟩⟩
    have e1 : Ex H H1 := init_ex (Evl.Ex.refl _) hx hdx e
    have two : WebAt T.C_Web H1 x n2 ar2 := (webN em hx hq hx1 hq1 hz).mono nw_ex
    walk_at "rd"
    refine ⟨Evl.sz_of (by decide), fun u hu => ?_⟩
    have e2 : Ex H1 (upd H1 u (.tup [.int n, .ref a])) := Evl.Ex.new hu
    have e02 := e1.trans e2
    refine eqD (d := dPA n ar) (.tup (sqT upd_same) (.cons (.int n) (.cons (dp_prs (e02 _ _ hxs) (har.mono e02)) .nil))) (dp_pa (pa.mono e02)) (dPA_sh _ _) (dPA_sh _ _) ?_
    rw [dPA_eqv]
    walk_at "rd"
    refine eqWeb (web.mono e02) (two.mono e2) ?_
    walk_at "rd"
    refine eqWeb (two.mono e2) (web.mono e02) ?_
    walk_at "rd"
    rw [show decide (n2 = n ∧ ar2 = ar) = decide (n = n2 ∧ ar = ar2) by rw [decide_eq_decide]; exact ⟨fun h => ⟨h.1.symm, h.2.symm⟩, fun h => ⟨h.1.symm, h.2.symm⟩⟩, decide_eq_true rfl]
    walk_at "rd"
    refine ⟨p, n, ar, rfl, web.mono e02, G, fun H3 w1 e3 hw1 => ?_⟩
    refine ⟨x, n2, ar2, rfl, (two.mono e2).mono e3, G2, fun H4 w2 e4 hw2 => ?_⟩
    refine eqWeb ((hw1.mono nw_ex).mono e4) (hw2.mono nw_ex) ?_
    walk_at "rd"
    rw [show decide (n = n2 ∧ (ar.map fun p => (p.2, p.1)) = (ar2.map fun p => (p.2, p.1))) = decide (n = n2 ∧ ar = ar2) by rw [decide_eq_decide, swap_inj], decide_eq_true rfl]
    walk_at "rd"
    have e04 : Ex H H4 := e02.trans (e3.trans e4)
    refine ⟨Evl.sz_of (by decide), fun u2 hu2 => ⟨Evl.sz_of (by decide), fun u3 hu3 => ?_⟩⟩
    have e5 : Ex H4 (upd H4 u2 (.tup [.int n, .ref a])) := Evl.Ex.new hu2
    have e6 := e5.trans (Evl.Ex.new (o := .lst [.ref a, .ref u2, .int n, .non]) hu3)
    have e06 := e04.trans e6
    walk_at "rd"
    refine lcA upd_same (fun i acc _ => acc = []) rfl ?_ ?_
    · intro D i v acc H5 hi hv hD hacc hal e7 hp
      have eF : Ex (upd (upd H4 u2 (.tup [.int n, .ref a])) u3 (.lst [.ref a, .ref u2, .int n, .non])) H5 := e7.trans dr_ex
      have hkind : v = .non ∨ (∃ i, v = .int i) ∨ (∃ a xs, v = .ref a ∧ Sq2 H5 a xs) := by
        match i, hv with
        | 0, hv => exact .inr (.inr ⟨a, xs, (Option.some.inj hv).symm, .inl (eF _ _ (e06 _ _ hxs))⟩)
        | 1, hv => exact .inr (.inr ⟨u2, _, (Option.some.inj hv).symm, .inr (eF _ _ ((Evl.Ex.new hu3) _ _ upd_same))⟩)
        | 2, hv => exact .inr (.inl ⟨n, (Option.some.inj hv).symm⟩)
        | 3, hv => exact .inl (Option.some.inj hv).symm
      walk_at "rd"
      refine neWeb ((web.mono e06).mono eF) hkind ?_
      walk_at "rd"
      exact cw_skip hacc hal e7 (Evl.Ex.refl _) hp
    · intro D acc H5 hD hacc hal e7 hp
      have eF : Ex (upd (upd H4 u2 (.tup [.int n, .ref a])) u3 (.lst [.ref a, .ref u2, .int n, .non])) H5 := e7.trans dr_ex
      walk_at "rd"
      refine ⟨Evl.sz_of (by decide), fun u4 hu4 => ?_⟩
      refine eqD (dp_is (ns := []) ((Evl.Ex.new hu4) _ _ (by rw [hacc, hp]; rfl))) (dp_is (ns := []) upd_same) (dIs_sh _) (dIs_sh _) ?_
      rw [dIs_eqv, decide_eq_true rfl]
      exact k _ (e06.trans (eF.trans (Evl.Ex.new hu4)))
theorem ok__law_right (T : Txt K mg) : FnOk P w K mg base CX0 9 T.a__law_right T.d__law_right ["pot"] sp__law_right := by
  refine T.F__law_right.ok sc_law_right (fun vs H Q E h => ?_) (fun cdv A outer s H vs Q E hr h => ?_)
  · obtain ⟨p, rfl, _⟩ := h; rfl
  · obtain ⟨p, rfl, pot, k⟩ := h
    refine ⟨_, (pss_cons (ps_asg (pe_call (ok__law_web T) (hr.mono (by decide)) rfl T.m__law_web T.F__law_web.kp T.b__law_web .nil pass0 (pa_cons (pv 0) (pa_cons pe_int (pa_cons pe_int (pa_cons pe_int pa_nil))))) (pg_tup rfl (pgs_cons (pg_name (i := 1) sc_law_right.nd rfl (Or.inl rfl) (Or.inr rfl)) (pgs_cons (pg_name (i := 2) sc_law_right.nd rfl (Or.inl rfl) (Or.inr rfl)) pgs_nil))))
        (pss_cons (ps_par (i := 3) (j := 4) (by rfl) sc_law_right.nd rfl rfl (by decide) rfl rfl (pa_cons (pe_make T.mk_Web (ok_Web__init_ T) (hr.mono (by decide)) rfl T.m_Web T.b_Web__init_ .nil pass0 (pa_cons (pv 1) (pa_cons (pv 2) pa_nil))) (pa_cons (pe_call (ok__law_row T) (hr.mono (by decide)) rfl T.m__law_row T.F__law_row.kp T.b__law_row .nil pass0 (pa_cons (pv 0) (pa_cons (pv 1) (pa_cons (pe_op op_sub pe_int (pv 1)) pa_nil)))) pa_nil)) (by rfl))
        (pss_cons (ps_if (pt_not (pt_val (pe_call (ok__law_parts_right T) (hr.mono (by decide)) rfl T.m__law_parts_right T.F__law_parts_right.kp T.b__law_parts_right .nil pass0 (pa_cons (pv 3) (pa_cons (pv 4) (pa_cons (pe_call (ok__law_row T) (hr.mono (by decide)) rfl T.m__law_row T.F__law_row.kp T.b__law_row .nil pass0 (pa_cons (pv 0) (pa_cons (pv 1) (pa_cons pe_int pa_nil)))) pa_nil)))))) (pss_one (ps_ret pe_bl)) pss_nil)
        (pss_cons (ps_for PassesOwn.never rfl (pi_range1 rfl T.n_range (pa_cons pe_int pa_nil)) (pg_name (i := 5) sc_law_right.nd rfl (Or.inl rfl) (Or.inr rfl)) (pss_one (ps_if (pt_not (pt_val (pe_call (ok__law_alike_right T) (hr.mono (by decide)) rfl T.m__law_alike_right T.F__law_alike_right.kp T.b__law_alike_right .nil pass0 (pa_cons (pv 3) (pa_cons (pv 1) (pa_cons (pv 2) (pa_cons (pe_call (ok__law_other T) (hr.mono (by decide)) rfl T.m__law_other T.F__law_other.kp T.b__law_other .nil pass0 (pa_cons (pv 0) (pa_cons (pv 1) (pa_cons (pv 2) pa_nil)))) pa_nil))))))) (pss_one (ps_ret pe_bl)) pss_nil)))
        (pss_one (ps_ret (pe_cmpR (show OpR _ _ (rEqOwn K T.C_Web (sp_Web__eq_ T.C_Web) E0) from SB.op_eqOwn (ok_Web__eq_ T) (hr.mono (by decide)) T.eq_Web T.fe_Web T.b_Web__eq_ pass0) (pv 3) (pe_make T.mk_Web (ok_Web__init_ T) (hr.mono (by decide)) rfl T.m_Web T.b_Web__init_ .nil pass0 (pa_cons (pv 1) (pa_cons (pe_callTy call_tuple_of (by rfl) T.n_tuple (by decide +kernel) (pa_cons (pv 2) pa_nil)) pa_nil))) (nomark _)))))))), ?_⟩
    walk_at "rd"
    refine ⟨p, 1, 4, 5, rfl, pot, by decide, by decide, by decide, by decide, by decide, fun t n ar H1 G n1 n4 har e1 pot1 pa => ?_⟩
    obtain ⟨po, hpo⟩ := pot.some
    obtain ⟨po1, hpo1⟩ := pot1.some
    obtain ⟨l, xs, ht, hl, hxs⟩ := pa.mono (nw_dr hpo)
    refine ⟨t, _, rfl, sqT (dr_ex _ _ ht), rfl, _, _, rfl, _, _, rfl, rfl, ?_⟩
    walk_at "rd"
    intro x dx hx hdx hne
    have em : Ex H1 (upd (upd H1 dx (.own x)) x (.ins T.C_Web dx [])) := made_ex hx hdx
    refine ⟨x, dx, n, l, xs, ar, rfl, upd_same, .inl (em _ _ (dr_ex _ _ hl)), (hxs.mono dr_ex).mono em, G, fun H2 q zs hq e hx2 hq2 hz => ⟨rfl, ?_⟩⟩
    have e2 : Ex H1 H2 := init_ex (Evl.Ex.refl _) hx hdx e
    have web : WebAt T.C_Web (dr p H2) x n ar := (webN em hx hq hx2 hq2 hz).mono (nw_dr hpo1)
    have hl2 : (dr p H2) l = some (.lst xs) := dr_mono e2 _ _ hl
    have hxs2 : Ar (dr p H2) xs ar := hxs.mono (dr_mono e2)
    have pot2 := pot1.mono e2
    obtain ⟨po2, hpo2⟩ := pot2.some
    refine ⟨p, n, 5 - n, rfl, pot2, by omega, by omega, by omega, by omega, fun qr ns H3 hnl hns hqr e3 pot3 hrow => ?_⟩
    obtain ⟨R1, hprod⟩ := row_small n1 n4 hnl hns
    refine ⟨_, _, ⟨rfl, rfl⟩, ?_⟩
    walk_at "rd"
    obtain ⟨po3, hpo3⟩ := pot3.some
    refine ⟨p, n, 6, rfl, pot3, by omega, by omega, by decide, by decide, fun qm ms H4 hml hms hqm e4 pot4 hrow2 => ?_⟩
    have R2 := row_any n4 hml hms
    have hqrp : qr ≠ p := fun z => by rw [z, hpo2] at hqr; cases hqr
    have e34 := e3.trans e4
    refine ⟨x, qr, qm, n, ar, ns, ms, rfl, web.mono (e34.trans dr_ex), G, dr_keep e4 hqrp hrow, R1, hprod, hrow2, R2, fun H5 e5 => ?_⟩
    walk_at "rd"
    refine forR ⟨by decide, by decide⟩ (WEnd H2 p n l x qr) ⟨none, rfl, e34.trans (dr_mono e5), pot4.mono e5⟩ ?_ ?_
    · rintro i σ H6 hi ⟨v5, rfl, e6, pot6⟩
      walk_at "rd"
      refine ⟨p, l, n, xs, ar, rfl, pot6, e6 _ _ hl2, hxs2.mono e6, G, by omega, fun t2 n2 ar2 H7 G2 e7 pot7 pa2 => ?_⟩
      have e27 := e6.trans e7
      refine ⟨x, l, t2, n, xs, ar, n2, ar2, rfl, web.mono (e27.trans dr_ex), G, dr_ex _ _ (e27 _ _ hl2), hxs2.mono (e27.trans dr_ex), pa2.mono dr_ex, G2, fun H8 e8 => ?_⟩
      walk_at "rd"
      exact ⟨_, rfl, e27.trans (dr_mono e8), pot7.mono e8⟩
    · rintro σ H6 ⟨v5, rfl, e6, pot6⟩
      walk_at "rd"
      refine ⟨_, .inl ⟨sqL (dr_ex _ _ (e6 _ _ hl2)), fun l2 hl3 => ?_⟩⟩
      intro x2 dx2 hx3 hdx3 hne3
      have e67 : Ex H6 (upd H6 l2 (.tup xs)) := Evl.Ex.new hl3
      have em2 : Ex (upd H6 l2 (.tup xs)) (upd (upd (upd H6 l2 (.tup xs)) dx2 (.own x2)) x2 (.ins T.C_Web dx2 [])) := made_ex hx3 hdx3
      refine ⟨x2, dx2, n, l2, xs, ar, rfl, upd_same, .inr (em2 _ _ upd_same), (hxs2.mono (e6.trans dr_ex)).mono (e67.trans em2), G, fun H9 q9 zs9 hq9 e9 hx9 hq99 hz9 => ⟨rfl, ?_⟩⟩
      have e69 : Ex H6 H9 := init_ex e67 hx3 hdx3 e9
      refine eqWeb (web.mono (e6.trans (dr_ex.trans e69))) ((webN em2 hx3 hq9 hx9 hq99 hz9).mono nw_ex) ?_
      rw [decide_eq_true ⟨rfl, rfl⟩]
      exact k _
theorem ok_law (T : Txt K mg) : FnOk P w K mg base CX0 10 T.a_law T.d_law ["script"] (sp_law K) := by
  refine T.F_law.ok sclaw (fun vs H Q E h => ?_) (fun cdv A outer s H vs Q E hr h => ?_)
  · obtain ⟨a, ns, rfl, _⟩ := h; rfl
  · obtain ⟨a, ns, rfl, hS, k⟩ := h
    refine ⟨_, (pss_one (ps_ret (pe_call (ok__law_right T) (hr.mono (by decide)) rfl T.m__law_right T.F__law_right.kp T.b__law_right .nil pass0 (pa_cons (pe_call (ok__law_pot T) (hr.mono (by decide)) rfl T.m__law_pot T.F__law_pot.kp T.b__law_pot .nil pass0 (pa_cons (pv 0) (pa_cons pe_int pa_nil))) pa_nil)))), ?_⟩
    walk_at "rd"
    refine ⟨a, ns, rfl, hS, fun p H1 e1 pot => ?_⟩
    refine ⟨p, rfl, pot, k⟩
end
end W18

set_option maxRecDepth 100000
set_option maxHeartbeats 4000000
namespace W18
open PySem L2 SB
theorem kb_rb {K : PySem.W.Frag} {f : Addr} {fd : FuncData} (F : Fun K "rows_below" "rows_below" srows_below f fd) : KBinds K fd ["web", "row"] ["row", "web"] KBw KBv := by
  obtain ⟨oc, od, kV, doc, pm, an, cdv, ct, osl, rfl, lk, hcd⟩ := F.ex
  refine ⟨fun s us ws _ hl => ?_, fun r z => p2_app r (p2_rev z)⟩
  unfold KBw at hl ⊢
  match us, ws, hl with
  | [], [r, w], _ => exact .of_eq rfl
  | [a], [b], _ => exact .of_eq rfl
  | [a, b], [], _ => exact .of_eq rfl
  | [], [], hl => simp at hl
  | [], [_], hl => simp at hl
  | [], _ :: _ :: _ :: _, hl => simp at hl
  | [_], [], hl => simp at hl
  | [_], _ :: _ :: _, hl => simp at hl
  | [_, _], _ :: _, hl => simp at hl
  | _ :: _ :: _ :: _, _, hl => simp at hl
section
variable {l : PySem.W.OpenLaw} {w : World} {K : PySem.W.Frag} {h : Heap} {mg : Str → Option Value}
theorem all_mk {fa : Addr} {C_Web : Addr}
    {f_is_integer f_is_count f__is_arrow f__have_ring f__are_arrows f_Web__init_ f_Web_places f_Web_arrows f_Web__eq_ f_check_web f_turned_web f_is_row f_check_row f_form f_rows_below f__law_pot f__law_draw f__law_order f__law_web f__law_row f__law_below f__law_other f__law_parts_right f__law_alike_right f__law_right f_law : Addr}
    {oc_is_integer kV_is_integer dc_is_integer pm_is_integer cd_is_integer ct_is_integer oc_is_count kV_is_count dc_is_count pm_is_count cd_is_count ct_is_count oc__is_arrow kV__is_arrow dc__is_arrow pm__is_arrow cd__is_arrow ct__is_arrow oc__have_ring kV__have_ring dc__have_ring pm__have_ring cd__have_ring ct__have_ring oc__are_arrows kV__are_arrows dc__are_arrows pm__are_arrows cd__are_arrows ct__are_arrows oc_Web__init_ kV_Web__init_ dc_Web__init_ pm_Web__init_ cd_Web__init_ ct_Web__init_ oc_Web_places kV_Web_places dc_Web_places pm_Web_places cd_Web_places ct_Web_places oc_Web_arrows kV_Web_arrows dc_Web_arrows pm_Web_arrows cd_Web_arrows ct_Web_arrows oc_Web__eq_ kV_Web__eq_ dc_Web__eq_ pm_Web__eq_ cd_Web__eq_ ct_Web__eq_ oc_check_web kV_check_web dc_check_web pm_check_web cd_check_web ct_check_web oc_turned_web kV_turned_web dc_turned_web pm_turned_web cd_turned_web ct_turned_web oc_is_row kV_is_row dc_is_row pm_is_row cd_is_row ct_is_row oc_check_row kV_check_row dc_check_row pm_check_row cd_check_row ct_check_row oc_form kV_form dc_form pm_form cd_form ct_form oc_rows_below kV_rows_below dc_rows_below pm_rows_below cd_rows_below ct_rows_below oc__law_pot kV__law_pot dc__law_pot pm__law_pot cd__law_pot ct__law_pot oc__law_draw kV__law_draw dc__law_draw pm__law_draw cd__law_draw ct__law_draw oc__law_order kV__law_order dc__law_order pm__law_order cd__law_order ct__law_order oc__law_web kV__law_web dc__law_web pm__law_web cd__law_web ct__law_web oc__law_row kV__law_row dc__law_row pm__law_row cd__law_row ct__law_row oc__law_below kV__law_below dc__law_below pm__law_below cd__law_below ct__law_below oc__law_other kV__law_other dc__law_other pm__law_other cd__law_other ct__law_other oc__law_parts_right kV__law_parts_right dc__law_parts_right pm__law_parts_right cd__law_parts_right ct__law_parts_right oc__law_alike_right kV__law_alike_right dc__law_alike_right pm__law_alike_right cd__law_alike_right ct__law_alike_right oc__law_right kV__law_right dc__law_right pm__law_right cd__law_right ct__law_right oc_law kV_law dc_law pm_law cd_law ct_law : Value}
    {od_is_integer an_is_integer od_is_count an_is_count od__is_arrow an__is_arrow od__have_ring an__have_ring od__are_arrows an__are_arrows od_Web__init_ an_Web__init_ od_Web_places an_Web_places od_Web_arrows an_Web_arrows od_Web__eq_ an_Web__eq_ od_check_web an_check_web od_turned_web an_turned_web od_is_row an_is_row od_check_row an_check_row od_form an_form od_rows_below an_rows_below od__law_pot an__law_pot od__law_draw an__law_draw od__law_order an__law_order od__law_web an__law_web od__law_row an__law_row od__law_below an__law_below od__law_other an__law_other od__law_parts_right an__law_parts_right od__law_alike_right an__law_alike_right od__law_right an__law_right od_law an_law : Option Addr}
    {sl_is_integer sl_is_count sl__is_arrow sl__have_ring sl__are_arrows sl_Web__init_ sl_Web_places sl_Web_arrows sl_Web__eq_ sl_check_web sl_turned_web sl_is_row sl_check_row sl_form sl_rows_below sl__law_pot sl__law_draw sl__law_order sl__law_web sl__law_row sl__law_below sl__law_other sl__law_parts_right sl__law_alike_right sl__law_right sl_law : Array (Option Value)}
    {q_Web_places : Addr}
    {re_Web_places : List Value}
    {t_MOST_PLACES t_MOST_ARROWS t_MOST_ROW t_MOST_SUM t_MOST_BELOW : Tok}
    (X : K.In h) (G : h.Ns mainGlobals mg) (hfa : mg "law" = some (.ref fa))
    (nC_Web : PySem.W.nsIn K mainGlobals "Web" = some (some (.ref C_Web)))
    (a_Web__init_ : PySem.W.findIn K (.ref C_Web) "__init__" = some (some (.ref f_Web__init_)))
    (pa_Web_places : PySem.W.findIn K (.ref C_Web) "places" = some (some (.ref q_Web_places)))
    (a_Web_arrows : PySem.W.findIn K (.ref C_Web) "arrows" = some (some (.ref f_Web_arrows)))
    (a_Web__eq_ : PySem.W.findIn K (.ref C_Web) "__eq__" = some (some (.ref f_Web__eq_)))
    (pd_Web_places : PySem.W.recIn K q_Web_places "property" = some (.ref f_Web_places :: re_Web_places))
    (n_is_integer : PySem.W.nsIn K mainGlobals "is_integer" = some (some (.ref f_is_integer)))
    (l_is_integer : K.lookup f_is_integer = some ⟨oc_is_integer, od_is_integer, .func (PySem.W.fnOf "is_integer" "is_integer" (defArgs sis_integer) (defBody sis_integer) (defScope sis_integer) .none kV_is_integer dc_is_integer pm_is_integer an_is_integer cd_is_integer ct_is_integer), sl_is_integer⟩)
    (c_is_integer : PySem.W.codeIn K cd_is_integer "is_integer" = true)
    (k_is_integer : PySem.W.keepIn K (.ref f_is_integer) = true)
    (n_is_count : PySem.W.nsIn K mainGlobals "is_count" = some (some (.ref f_is_count)))
    (l_is_count : K.lookup f_is_count = some ⟨oc_is_count, od_is_count, .func (PySem.W.fnOf "is_count" "is_count" (defArgs sis_count) (defBody sis_count) (defScope sis_count) .none kV_is_count dc_is_count pm_is_count an_is_count cd_is_count ct_is_count), sl_is_count⟩)
    (c_is_count : PySem.W.codeIn K cd_is_count "is_count" = true)
    (k_is_count : PySem.W.keepIn K (.ref f_is_count) = true)
    (n__is_arrow : PySem.W.nsIn K mainGlobals "_is_arrow" = some (some (.ref f__is_arrow)))
    (l__is_arrow : K.lookup f__is_arrow = some ⟨oc__is_arrow, od__is_arrow, .func (PySem.W.fnOf "_is_arrow" "_is_arrow" (defArgs s_is_arrow) (defBody s_is_arrow) (defScope s_is_arrow) .none kV__is_arrow dc__is_arrow pm__is_arrow an__is_arrow cd__is_arrow ct__is_arrow), sl__is_arrow⟩)
    (c__is_arrow : PySem.W.codeIn K cd__is_arrow "_is_arrow" = true)
    (k__is_arrow : PySem.W.keepIn K (.ref f__is_arrow) = true)
    (n__have_ring : PySem.W.nsIn K mainGlobals "_have_ring" = some (some (.ref f__have_ring)))
    (l__have_ring : K.lookup f__have_ring = some ⟨oc__have_ring, od__have_ring, .func (PySem.W.fnOf "_have_ring" "_have_ring" (defArgs s_have_ring) (defBody s_have_ring) (defScope s_have_ring) .none kV__have_ring dc__have_ring pm__have_ring an__have_ring cd__have_ring ct__have_ring), sl__have_ring⟩)
    (c__have_ring : PySem.W.codeIn K cd__have_ring "_have_ring" = true)
    (k__have_ring : PySem.W.keepIn K (.ref f__have_ring) = true)
    (n__are_arrows : PySem.W.nsIn K mainGlobals "_are_arrows" = some (some (.ref f__are_arrows)))
    (l__are_arrows : K.lookup f__are_arrows = some ⟨oc__are_arrows, od__are_arrows, .func (PySem.W.fnOf "_are_arrows" "_are_arrows" (defArgs s_are_arrows) (defBody s_are_arrows) (defScope s_are_arrows) .none kV__are_arrows dc__are_arrows pm__are_arrows an__are_arrows cd__are_arrows ct__are_arrows), sl__are_arrows⟩)
    (c__are_arrows : PySem.W.codeIn K cd__are_arrows "_are_arrows" = true)
    (k__are_arrows : PySem.W.keepIn K (.ref f__are_arrows) = true)
    (l_Web__init_ : K.lookup f_Web__init_ = some ⟨oc_Web__init_, od_Web__init_, .func (PySem.W.fnOf "__init__" "Web.__init__" (defArgs sWeb__init_) (defBody sWeb__init_) (defScope sWeb__init_) .none kV_Web__init_ dc_Web__init_ pm_Web__init_ an_Web__init_ cd_Web__init_ ct_Web__init_), sl_Web__init_⟩)
    (c_Web__init_ : PySem.W.codeIn K cd_Web__init_ "Web.__init__" = true)
    (k_Web__init_ : PySem.W.keepIn K (.ref f_Web__init_) = true)
    (l_Web_places : K.lookup f_Web_places = some ⟨oc_Web_places, od_Web_places, .func (PySem.W.fnOf "places" "Web.places" (defArgs sWeb_places) (defBody sWeb_places) (defScope sWeb_places) .none kV_Web_places dc_Web_places pm_Web_places an_Web_places cd_Web_places ct_Web_places), sl_Web_places⟩)
    (c_Web_places : PySem.W.codeIn K cd_Web_places "Web.places" = true)
    (k_Web_places : PySem.W.keepIn K (.ref f_Web_places) = true)
    (l_Web_arrows : K.lookup f_Web_arrows = some ⟨oc_Web_arrows, od_Web_arrows, .func (PySem.W.fnOf "arrows" "Web.arrows" (defArgs sWeb_arrows) (defBody sWeb_arrows) (defScope sWeb_arrows) .none kV_Web_arrows dc_Web_arrows pm_Web_arrows an_Web_arrows cd_Web_arrows ct_Web_arrows), sl_Web_arrows⟩)
    (c_Web_arrows : PySem.W.codeIn K cd_Web_arrows "Web.arrows" = true)
    (k_Web_arrows : PySem.W.keepIn K (.ref f_Web_arrows) = true)
    (l_Web__eq_ : K.lookup f_Web__eq_ = some ⟨oc_Web__eq_, od_Web__eq_, .func (PySem.W.fnOf "__eq__" "Web.__eq__" (defArgs sWeb__eq_) (defBody sWeb__eq_) (defScope sWeb__eq_) .none kV_Web__eq_ dc_Web__eq_ pm_Web__eq_ an_Web__eq_ cd_Web__eq_ ct_Web__eq_), sl_Web__eq_⟩)
    (c_Web__eq_ : PySem.W.codeIn K cd_Web__eq_ "Web.__eq__" = true)
    (k_Web__eq_ : PySem.W.keepIn K (.ref f_Web__eq_) = true)
    (n_check_web : PySem.W.nsIn K mainGlobals "check_web" = some (some (.ref f_check_web)))
    (l_check_web : K.lookup f_check_web = some ⟨oc_check_web, od_check_web, .func (PySem.W.fnOf "check_web" "check_web" (defArgs scheck_web) (defBody scheck_web) (defScope scheck_web) .none kV_check_web dc_check_web pm_check_web an_check_web cd_check_web ct_check_web), sl_check_web⟩)
    (c_check_web : PySem.W.codeIn K cd_check_web "check_web" = true)
    (k_check_web : PySem.W.keepIn K (.ref f_check_web) = true)
    (n_turned_web : PySem.W.nsIn K mainGlobals "turned_web" = some (some (.ref f_turned_web)))
    (l_turned_web : K.lookup f_turned_web = some ⟨oc_turned_web, od_turned_web, .func (PySem.W.fnOf "turned_web" "turned_web" (defArgs sturned_web) (defBody sturned_web) (defScope sturned_web) .none kV_turned_web dc_turned_web pm_turned_web an_turned_web cd_turned_web ct_turned_web), sl_turned_web⟩)
    (c_turned_web : PySem.W.codeIn K cd_turned_web "turned_web" = true)
    (k_turned_web : PySem.W.keepIn K (.ref f_turned_web) = true)
    (n_is_row : PySem.W.nsIn K mainGlobals "is_row" = some (some (.ref f_is_row)))
    (l_is_row : K.lookup f_is_row = some ⟨oc_is_row, od_is_row, .func (PySem.W.fnOf "is_row" "is_row" (defArgs sis_row) (defBody sis_row) (defScope sis_row) .none kV_is_row dc_is_row pm_is_row an_is_row cd_is_row ct_is_row), sl_is_row⟩)
    (c_is_row : PySem.W.codeIn K cd_is_row "is_row" = true)
    (k_is_row : PySem.W.keepIn K (.ref f_is_row) = true)
    (n_check_row : PySem.W.nsIn K mainGlobals "check_row" = some (some (.ref f_check_row)))
    (l_check_row : K.lookup f_check_row = some ⟨oc_check_row, od_check_row, .func (PySem.W.fnOf "check_row" "check_row" (defArgs scheck_row) (defBody scheck_row) (defScope scheck_row) .none kV_check_row dc_check_row pm_check_row an_check_row cd_check_row ct_check_row), sl_check_row⟩)
    (c_check_row : PySem.W.codeIn K cd_check_row "check_row" = true)
    (k_check_row : PySem.W.keepIn K (.ref f_check_row) = true)
    (n_form : PySem.W.nsIn K mainGlobals "form" = some (some (.ref f_form)))
    (l_form : K.lookup f_form = some ⟨oc_form, od_form, .func (PySem.W.fnOf "form" "form" (defArgs sform) (defBody sform) (defScope sform) .none kV_form dc_form pm_form an_form cd_form ct_form), sl_form⟩)
    (c_form : PySem.W.codeIn K cd_form "form" = true)
    (k_form : PySem.W.keepIn K (.ref f_form) = true)
    (n_rows_below : PySem.W.nsIn K mainGlobals "rows_below" = some (some (.ref f_rows_below)))
    (l_rows_below : K.lookup f_rows_below = some ⟨oc_rows_below, od_rows_below, .func (PySem.W.fnOf "rows_below" "rows_below" (defArgs srows_below) (defBody srows_below) (defScope srows_below) .none kV_rows_below dc_rows_below pm_rows_below an_rows_below cd_rows_below ct_rows_below), sl_rows_below⟩)
    (c_rows_below : PySem.W.codeIn K cd_rows_below "rows_below" = true)
    (k_rows_below : PySem.W.keepIn K (.ref f_rows_below) = true)
    (n__law_pot : PySem.W.nsIn K mainGlobals "_law_pot" = some (some (.ref f__law_pot)))
    (l__law_pot : K.lookup f__law_pot = some ⟨oc__law_pot, od__law_pot, .func (PySem.W.fnOf "_law_pot" "_law_pot" (defArgs s_law_pot) (defBody s_law_pot) (defScope s_law_pot) .none kV__law_pot dc__law_pot pm__law_pot an__law_pot cd__law_pot ct__law_pot), sl__law_pot⟩)
    (c__law_pot : PySem.W.codeIn K cd__law_pot "_law_pot" = true)
    (k__law_pot : PySem.W.keepIn K (.ref f__law_pot) = true)
    (n__law_draw : PySem.W.nsIn K mainGlobals "_law_draw" = some (some (.ref f__law_draw)))
    (l__law_draw : K.lookup f__law_draw = some ⟨oc__law_draw, od__law_draw, .func (PySem.W.fnOf "_law_draw" "_law_draw" (defArgs s_law_draw) (defBody s_law_draw) (defScope s_law_draw) .none kV__law_draw dc__law_draw pm__law_draw an__law_draw cd__law_draw ct__law_draw), sl__law_draw⟩)
    (c__law_draw : PySem.W.codeIn K cd__law_draw "_law_draw" = true)
    (k__law_draw : PySem.W.keepIn K (.ref f__law_draw) = true)
    (n__law_order : PySem.W.nsIn K mainGlobals "_law_order" = some (some (.ref f__law_order)))
    (l__law_order : K.lookup f__law_order = some ⟨oc__law_order, od__law_order, .func (PySem.W.fnOf "_law_order" "_law_order" (defArgs s_law_order) (defBody s_law_order) (defScope s_law_order) .none kV__law_order dc__law_order pm__law_order an__law_order cd__law_order ct__law_order), sl__law_order⟩)
    (c__law_order : PySem.W.codeIn K cd__law_order "_law_order" = true)
    (k__law_order : PySem.W.keepIn K (.ref f__law_order) = true)
    (n__law_web : PySem.W.nsIn K mainGlobals "_law_web" = some (some (.ref f__law_web)))
    (l__law_web : K.lookup f__law_web = some ⟨oc__law_web, od__law_web, .func (PySem.W.fnOf "_law_web" "_law_web" (defArgs s_law_web) (defBody s_law_web) (defScope s_law_web) .none kV__law_web dc__law_web pm__law_web an__law_web cd__law_web ct__law_web), sl__law_web⟩)
    (c__law_web : PySem.W.codeIn K cd__law_web "_law_web" = true)
    (k__law_web : PySem.W.keepIn K (.ref f__law_web) = true)
    (n__law_row : PySem.W.nsIn K mainGlobals "_law_row" = some (some (.ref f__law_row)))
    (l__law_row : K.lookup f__law_row = some ⟨oc__law_row, od__law_row, .func (PySem.W.fnOf "_law_row" "_law_row" (defArgs s_law_row) (defBody s_law_row) (defScope s_law_row) .none kV__law_row dc__law_row pm__law_row an__law_row cd__law_row ct__law_row), sl__law_row⟩)
    (c__law_row : PySem.W.codeIn K cd__law_row "_law_row" = true)
    (k__law_row : PySem.W.keepIn K (.ref f__law_row) = true)
    (n__law_below : PySem.W.nsIn K mainGlobals "_law_below" = some (some (.ref f__law_below)))
    (l__law_below : K.lookup f__law_below = some ⟨oc__law_below, od__law_below, .func (PySem.W.fnOf "_law_below" "_law_below" (defArgs s_law_below) (defBody s_law_below) (defScope s_law_below) .none kV__law_below dc__law_below pm__law_below an__law_below cd__law_below ct__law_below), sl__law_below⟩)
    (c__law_below : PySem.W.codeIn K cd__law_below "_law_below" = true)
    (k__law_below : PySem.W.keepIn K (.ref f__law_below) = true)
    (n__law_other : PySem.W.nsIn K mainGlobals "_law_other" = some (some (.ref f__law_other)))
    (l__law_other : K.lookup f__law_other = some ⟨oc__law_other, od__law_other, .func (PySem.W.fnOf "_law_other" "_law_other" (defArgs s_law_other) (defBody s_law_other) (defScope s_law_other) .none kV__law_other dc__law_other pm__law_other an__law_other cd__law_other ct__law_other), sl__law_other⟩)
    (c__law_other : PySem.W.codeIn K cd__law_other "_law_other" = true)
    (k__law_other : PySem.W.keepIn K (.ref f__law_other) = true)
    (n__law_parts_right : PySem.W.nsIn K mainGlobals "_law_parts_right" = some (some (.ref f__law_parts_right)))
    (l__law_parts_right : K.lookup f__law_parts_right = some ⟨oc__law_parts_right, od__law_parts_right, .func (PySem.W.fnOf "_law_parts_right" "_law_parts_right" (defArgs s_law_parts_right) (defBody s_law_parts_right) (defScope s_law_parts_right) .none kV__law_parts_right dc__law_parts_right pm__law_parts_right an__law_parts_right cd__law_parts_right ct__law_parts_right), sl__law_parts_right⟩)
    (c__law_parts_right : PySem.W.codeIn K cd__law_parts_right "_law_parts_right" = true)
    (k__law_parts_right : PySem.W.keepIn K (.ref f__law_parts_right) = true)
    (n__law_alike_right : PySem.W.nsIn K mainGlobals "_law_alike_right" = some (some (.ref f__law_alike_right)))
    (l__law_alike_right : K.lookup f__law_alike_right = some ⟨oc__law_alike_right, od__law_alike_right, .func (PySem.W.fnOf "_law_alike_right" "_law_alike_right" (defArgs s_law_alike_right) (defBody s_law_alike_right) (defScope s_law_alike_right) .none kV__law_alike_right dc__law_alike_right pm__law_alike_right an__law_alike_right cd__law_alike_right ct__law_alike_right), sl__law_alike_right⟩)
    (c__law_alike_right : PySem.W.codeIn K cd__law_alike_right "_law_alike_right" = true)
    (k__law_alike_right : PySem.W.keepIn K (.ref f__law_alike_right) = true)
    (n__law_right : PySem.W.nsIn K mainGlobals "_law_right" = some (some (.ref f__law_right)))
    (l__law_right : K.lookup f__law_right = some ⟨oc__law_right, od__law_right, .func (PySem.W.fnOf "_law_right" "_law_right" (defArgs s_law_right) (defBody s_law_right) (defScope s_law_right) .none kV__law_right dc__law_right pm__law_right an__law_right cd__law_right ct__law_right), sl__law_right⟩)
    (c__law_right : PySem.W.codeIn K cd__law_right "_law_right" = true)
    (k__law_right : PySem.W.keepIn K (.ref f__law_right) = true)
    (n_law : PySem.W.nsIn K mainGlobals "law" = some (some (.ref f_law)))
    (l_law : K.lookup f_law = some ⟨oc_law, od_law, .func (PySem.W.fnOf "law" "law" (defArgs slaw) (defBody slaw) (defScope slaw) .none kV_law dc_law pm_law an_law cd_law ct_law), sl_law⟩)
    (c_law : PySem.W.codeIn K cd_law "law" = true)
    (k_law : PySem.W.keepIn K (.ref f_law) = true)
    (pg_Web : PySem.W.plainGet K C_Web Str.empty = true)
    (hd_Web : PySem.W.hasDictIn K C_Web = true)
    (po_Web : PySem.W.plainOver K C_Web = true)
    (sa_Web : PySem.W.findIn K (.ref C_Web) "__setattr__" = some (some (.builtin "object.__setattr__")))
    (mkk_Web : PySem.W.makesIn K C_Web = true)
    (kc_Web : PySem.W.keepIn K (.ref C_Web) = true)
    (hc1_Web : PySem.W.findIn K (.ref C_Web) "__class__" = some (some (.builtin "object.__class__")))
    (hc4_Web : PySem.W.mroIn K C_Web (.type "object") = some true)
    (is_Web : PySem.W.isClsIn K C_Web = true)
    (ty_Web : PySem.W.typeIn K (.ref C_Web) = some (.type "type"))
    (nf_Web_places : PySem.W.findIn K (.ref C_Web) "_places" = some none)
    (nf_Web_arrows : PySem.W.findIn K (.ref C_Web) "_arrows" = some none)
    (i_Web__init_ : PySem.W.isFn K (.ref f_Web__init_) = true)
    (pb_Web_places : PySem.W.specialIn K (.ref q_Web_places) "__get__" = some (some (.builtin "property.__get__")))
    (pc_Web_places : PySem.W.takesIn K (.ref q_Web_places) = some true)
    (i_Web_arrows : PySem.W.isFn K (.ref f_Web_arrows) = true)
    (i_Web__eq_ : PySem.W.isFn K (.ref f_Web__eq_) = true)
    (z_len : PySem.W.nsIn K mainGlobals "len" = some none)
    (z_isinstance : PySem.W.nsIn K mainGlobals "isinstance" = some none)
    (z_int : PySem.W.nsIn K mainGlobals "int" = some none)
    (z_bool : PySem.W.nsIn K mainGlobals "bool" = some none)
    (z_list : PySem.W.nsIn K mainGlobals "list" = some none)
    (z_tuple : PySem.W.nsIn K mainGlobals "tuple" = some none)
    (z_all : PySem.W.nsIn K mainGlobals "all" = some none)
    (z_sum : PySem.W.nsIn K mainGlobals "sum" = some none)
    (z_range : PySem.W.nsIn K mainGlobals "range" = some none)
    (z_zip : PySem.W.nsIn K mainGlobals "zip" = some none)
    (z_abs : PySem.W.nsIn K mainGlobals "abs" = some none)
    (z_max : PySem.W.nsIn K mainGlobals "max" = some none)
    (z_divmod : PySem.W.nsIn K mainGlobals "divmod" = some none)
    (g_MOST_PLACES : PySem.W.nsIn K mainGlobals "MOST_PLACES" = some (some (.int 13 t_MOST_PLACES)))
    (g_MOST_ARROWS : PySem.W.nsIn K mainGlobals "MOST_ARROWS" = some (some (.int 12 t_MOST_ARROWS)))
    (g_MOST_ROW : PySem.W.nsIn K mainGlobals "MOST_ROW" = some (some (.int 6 t_MOST_ROW)))
    (g_MOST_SUM : PySem.W.nsIn K mainGlobals "MOST_SUM" = some (some (.int 24 t_MOST_SUM)))
    (g_MOST_BELOW : PySem.W.nsIn K mainGlobals "MOST_BELOW" = some (some (.int 400 t_MOST_BELOW)))
    : ∃ fd : FuncData, (∀ (s : Shared) (v : Value), BindsTo s fd ⟨[v], []⟩ [("script", v)]) ∧ ∀ base : Heap, K.In base → base.Ns mainGlobals mg → FnOk l.prog w K mg base CX0 10 fa fd ["script"] (sp_law K) := by
  have e := hfa.symm.trans (PySem.W.mg_of X G n_law)
  have e' : f_law = fa := by cases e; rfl
  subst e'
  have Fis_integer := fun_mk (st := sis_integer) l_is_integer c_is_integer k_is_integer
  have Fis_count := fun_mk (st := sis_count) l_is_count c_is_count k_is_count
  have F_is_arrow := fun_mk (st := s_is_arrow) l__is_arrow c__is_arrow k__is_arrow
  have F_have_ring := fun_mk (st := s_have_ring) l__have_ring c__have_ring k__have_ring
  have F_are_arrows := fun_mk (st := s_are_arrows) l__are_arrows c__are_arrows k__are_arrows
  have FWeb__init_ := fun_mk (st := sWeb__init_) l_Web__init_ c_Web__init_ k_Web__init_
  have FWeb_places := fun_mk (st := sWeb_places) l_Web_places c_Web_places k_Web_places
  have FWeb_arrows := fun_mk (st := sWeb_arrows) l_Web_arrows c_Web_arrows k_Web_arrows
  have FWeb__eq_ := fun_mk (st := sWeb__eq_) l_Web__eq_ c_Web__eq_ k_Web__eq_
  have Fcheck_web := fun_mk (st := scheck_web) l_check_web c_check_web k_check_web
  have Fturned_web := fun_mk (st := sturned_web) l_turned_web c_turned_web k_turned_web
  have Fis_row := fun_mk (st := sis_row) l_is_row c_is_row k_is_row
  have Fcheck_row := fun_mk (st := scheck_row) l_check_row c_check_row k_check_row
  have Fform := fun_mk (st := sform) l_form c_form k_form
  have Frows_below := fun_mk (st := srows_below) l_rows_below c_rows_below k_rows_below
  have F_law_pot := fun_mk (st := s_law_pot) l__law_pot c__law_pot k__law_pot
  have F_law_draw := fun_mk (st := s_law_draw) l__law_draw c__law_draw k__law_draw
  have F_law_order := fun_mk (st := s_law_order) l__law_order c__law_order k__law_order
  have F_law_web := fun_mk (st := s_law_web) l__law_web c__law_web k__law_web
  have F_law_row := fun_mk (st := s_law_row) l__law_row c__law_row k__law_row
  have F_law_below := fun_mk (st := s_law_below) l__law_below c__law_below k__law_below
  have F_law_other := fun_mk (st := s_law_other) l__law_other c__law_other k__law_other
  have F_law_parts_right := fun_mk (st := s_law_parts_right) l__law_parts_right c__law_parts_right k__law_parts_right
  have F_law_alike_right := fun_mk (st := s_law_alike_right) l__law_alike_right c__law_alike_right k__law_alike_right
  have F_law_right := fun_mk (st := s_law_right) l__law_right c__law_right k__law_right
  have Flaw := fun_mk (st := slaw) l_law c_law k_law
  have kbRB : KBinds K _ ["web", "row"] ["row", "web"] KBw KBv := kb_rb Frows_below
  let T : Txt K mg := {
    a_is_integer := f_is_integer,
    d_is_integer := _,
    F_is_integer := Fis_integer,
    b_is_integer := Fis_integer.binds (ps := ["value"]) fun _ _ _ _ _ _ us hl => match us, hl with | [_], _ => rfl,
    m_is_integer := PySem.W.mg_of X G n_is_integer,
    a_is_count := f_is_count,
    d_is_count := _,
    F_is_count := Fis_count,
    b_is_count := Fis_count.binds (ps := ["value"]) fun _ _ _ _ _ _ us hl => match us, hl with | [_], _ => rfl,
    m_is_count := PySem.W.mg_of X G n_is_count,
    a__is_arrow := f__is_arrow,
    d__is_arrow := _,
    F__is_arrow := F_is_arrow,
    b__is_arrow := F_is_arrow.binds (ps := ["places", "arrow"]) fun _ _ _ _ _ _ us hl => match us, hl with | [_, _], _ => rfl,
    m__is_arrow := PySem.W.mg_of X G n__is_arrow,
    a__have_ring := f__have_ring,
    d__have_ring := _,
    F__have_ring := F_have_ring,
    b__have_ring := F_have_ring.binds (ps := ["arrows"]) fun _ _ _ _ _ _ us hl => match us, hl with | [_], _ => rfl,
    m__have_ring := PySem.W.mg_of X G n__have_ring,
    a__are_arrows := f__are_arrows,
    d__are_arrows := _,
    F__are_arrows := F_are_arrows,
    b__are_arrows := F_are_arrows.binds (ps := ["places", "arrows"]) fun _ _ _ _ _ _ us hl => match us, hl with | [_, _], _ => rfl,
    m__are_arrows := PySem.W.mg_of X G n__are_arrows,
    a_Web__init_ := f_Web__init_,
    d_Web__init_ := _,
    F_Web__init_ := FWeb__init_,
    b_Web__init_ := FWeb__init_.binds (ps := ["self", "places", "arrows"]) fun _ _ _ _ _ _ us hl => match us, hl with | [_, _, _], _ => rfl,
    a_Web_places := f_Web_places,
    d_Web_places := _,
    F_Web_places := FWeb_places,
    b_Web_places := FWeb_places.binds (ps := ["self"]) fun _ _ _ _ _ _ us hl => match us, hl with | [_], _ => rfl,
    a_Web_arrows := f_Web_arrows,
    d_Web_arrows := _,
    F_Web_arrows := FWeb_arrows,
    b_Web_arrows := FWeb_arrows.binds (ps := ["self"]) fun _ _ _ _ _ _ us hl => match us, hl with | [_], _ => rfl,
    a_Web__eq_ := f_Web__eq_,
    d_Web__eq_ := _,
    F_Web__eq_ := FWeb__eq_,
    b_Web__eq_ := FWeb__eq_.binds (ps := ["self", "other"]) fun _ _ _ _ _ _ us hl => match us, hl with | [_, _], _ => rfl,
    a_check_web := f_check_web,
    d_check_web := _,
    F_check_web := Fcheck_web,
    b_check_web := Fcheck_web.binds (ps := ["web"]) fun _ _ _ _ _ _ us hl => match us, hl with | [_], _ => rfl,
    m_check_web := PySem.W.mg_of X G n_check_web,
    a_turned_web := f_turned_web,
    d_turned_web := _,
    F_turned_web := Fturned_web,
    b_turned_web := Fturned_web.binds (ps := ["web"]) fun _ _ _ _ _ _ us hl => match us, hl with | [_], _ => rfl,
    m_turned_web := PySem.W.mg_of X G n_turned_web,
    a_is_row := f_is_row,
    d_is_row := _,
    F_is_row := Fis_row,
    b_is_row := Fis_row.binds (ps := ["web", "value"]) fun _ _ _ _ _ _ us hl => match us, hl with | [_, _], _ => rfl,
    m_is_row := PySem.W.mg_of X G n_is_row,
    a_check_row := f_check_row,
    d_check_row := _,
    F_check_row := Fcheck_row,
    b_check_row := Fcheck_row.binds (ps := ["web", "row"]) fun _ _ _ _ _ _ us hl => match us, hl with | [_, _], _ => rfl,
    m_check_row := PySem.W.mg_of X G n_check_row,
    a_form := f_form,
    d_form := _,
    F_form := Fform,
    b_form := Fform.binds (ps := ["web", "row", "other"]) fun _ _ _ _ _ _ us hl => match us, hl with | [_, _, _], _ => rfl,
    m_form := PySem.W.mg_of X G n_form,
    a_rows_below := f_rows_below,
    d_rows_below := _,
    F_rows_below := Frows_below,
    b_rows_below := Frows_below.binds (ps := ["web", "row"]) fun _ _ _ _ _ _ us hl => match us, hl with | [_, _], _ => rfl,
    m_rows_below := PySem.W.mg_of X G n_rows_below,
    a__law_pot := f__law_pot,
    d__law_pot := _,
    F__law_pot := F_law_pot,
    b__law_pot := F_law_pot.binds (ps := ["script", "k"]) fun _ _ _ _ _ _ us hl => match us, hl with | [_, _], _ => rfl,
    m__law_pot := PySem.W.mg_of X G n__law_pot,
    a__law_draw := f__law_draw,
    d__law_draw := _,
    F__law_draw := F_law_draw,
    b__law_draw := F_law_draw.binds (ps := ["pot", "sides"]) fun _ _ _ _ _ _ us hl => match us, hl with | [_, _], _ => rfl,
    m__law_draw := PySem.W.mg_of X G n__law_draw,
    a__law_order := f__law_order,
    d__law_order := _,
    F__law_order := F_law_order,
    b__law_order := F_law_order.binds (ps := ["pot", "many"]) fun _ _ _ _ _ _ us hl => match us, hl with | [_, _], _ => rfl,
    m__law_order := PySem.W.mg_of X G n__law_order,
    a__law_web := f__law_web,
    d__law_web := _,
    F__law_web := F_law_web,
    b__law_web := F_law_web.binds (ps := ["pot", "least", "most", "arrows"]) fun _ _ _ _ _ _ us hl => match us, hl with | [_, _, _, _], _ => rfl,
    m__law_web := PySem.W.mg_of X G n__law_web,
    a__law_row := f__law_row,
    d__law_row := _,
    F__law_row := F_law_row,
    b__law_row := F_law_row.binds (ps := ["pot", "places", "most"]) fun _ _ _ _ _ _ us hl => match us, hl with | [_, _, _], _ => rfl,
    m__law_row := PySem.W.mg_of X G n__law_row,
    a__law_below := f__law_below,
    d__law_below := _,
    F__law_below := F_law_below,
    b__law_below := F_law_below.binds (ps := ["row"]) fun _ _ _ _ _ _ us hl => match us, hl with | [_], _ => rfl,
    m__law_below := PySem.W.mg_of X G n__law_below,
    a__law_other := f__law_other,
    d__law_other := _,
    F__law_other := F_law_other,
    b__law_other := F_law_other.binds (ps := ["pot", "places", "arrows"]) fun _ _ _ _ _ _ us hl => match us, hl with | [_, _, _], _ => rfl,
    m__law_other := PySem.W.mg_of X G n__law_other,
    a__law_parts_right := f__law_parts_right,
    d__law_parts_right := _,
    F__law_parts_right := F_law_parts_right,
    b__law_parts_right := F_law_parts_right.binds (ps := ["web", "row", "other"]) fun _ _ _ _ _ _ us hl => match us, hl with | [_, _, _], _ => rfl,
    m__law_parts_right := PySem.W.mg_of X G n__law_parts_right,
    a__law_alike_right := f__law_alike_right,
    d__law_alike_right := _,
    F__law_alike_right := F_law_alike_right,
    b__law_alike_right := F_law_alike_right.binds (ps := ["web", "places", "arrows", "told"]) fun _ _ _ _ _ _ us hl => match us, hl with | [_, _, _, _], _ => rfl,
    m__law_alike_right := PySem.W.mg_of X G n__law_alike_right,
    a__law_right := f__law_right,
    d__law_right := _,
    F__law_right := F_law_right,
    b__law_right := F_law_right.binds (ps := ["pot"]) fun _ _ _ _ _ _ us hl => match us, hl with | [_], _ => rfl,
    m__law_right := PySem.W.mg_of X G n__law_right,
    a_law := f_law,
    d_law := _,
    F_law := Flaw,
    b_law := Flaw.binds (ps := ["script"]) fun _ _ _ _ _ _ us hl => match us, hl with | [_], _ => rfl,
    m_law := PySem.W.mg_of X G n_law,
    C_Web := C_Web,
    m_Web := PySem.W.mg_of X G nC_Web,
    cl_Web := ⟨pg_Web, hd_Web, po_Web, sa_Web⟩,
    mk_Web := ⟨mkk_Web, a_Web__init_, i_Web__init_, kc_Web⟩,
    hc1_Web := hc1_Web,
    hc4_Web := hc4_Web,
    is_Web := is_Web,
    ty_Web := ty_Web,
    nf_Web_places := nf_Web_places,
    nf_Web_arrows := nf_Web_arrows,
    q_Web_places := q_Web_places,
    p_Web_places := ⟨pa_Web_places, pb_Web_places, pc_Web_places, ⟨re_Web_places, pd_Web_places⟩⟩,
    me_Web_arrows := ⟨a_Web_arrows, i_Web_arrows, k_Web_arrows⟩,
    eq_Web := a_Web__eq_,
    fe_Web := i_Web__eq_,
    n_len := PySem.W.mg_none_of X G z_len,
    n_isinstance := PySem.W.mg_none_of X G z_isinstance,
    n_int := PySem.W.mg_none_of X G z_int,
    n_bool := PySem.W.mg_none_of X G z_bool,
    n_list := PySem.W.mg_none_of X G z_list,
    n_tuple := PySem.W.mg_none_of X G z_tuple,
    n_all := PySem.W.mg_none_of X G z_all,
    n_sum := PySem.W.mg_none_of X G z_sum,
    n_range := PySem.W.mg_none_of X G z_range,
    n_zip := PySem.W.mg_none_of X G z_zip,
    n_abs := PySem.W.mg_none_of X G z_abs,
    n_max := PySem.W.mg_none_of X G z_max,
    n_divmod := PySem.W.mg_none_of X G z_divmod,
    t_MOST_PLACES := t_MOST_PLACES,
    g_MOST_PLACES := PySem.W.mg_of X G g_MOST_PLACES,
    t_MOST_ARROWS := t_MOST_ARROWS,
    g_MOST_ARROWS := PySem.W.mg_of X G g_MOST_ARROWS,
    t_MOST_ROW := t_MOST_ROW,
    g_MOST_ROW := PySem.W.mg_of X G g_MOST_ROW,
    t_MOST_SUM := t_MOST_SUM,
    g_MOST_SUM := PySem.W.mg_of X G g_MOST_SUM,
    t_MOST_BELOW := t_MOST_BELOW,
    g_MOST_BELOW := PySem.W.mg_of X G g_MOST_BELOW,
    kb_rows_below_row_web := kbRB
  }
  exact ⟨T.d_law, fun s v => .of_eq rfl, fun base _ _ => ok_law T⟩
end
theorem walk {l : PySem.W.OpenLaw} {q : Program} {loose : List Str} {XP : (Str → Option Value) → Heap → Prop} {YP : World → Heap → Prop} {d : DefRec} {K : Params → PySem.W.Frag} (hn : l.most = some 63) (hdf : d.params.defaults = [])
    (hY : ∀ (w : World) (h : Heap), YP w h → (K w.params).In h)
    (F : ∀ (w : World) (mg : Str → Option Value) (fa : Addr) (h : Heap), (K w.params).In h → h.Ns mainGlobals mg → mg d.name = some (.ref fa) →
      ∃ fd : FuncData, (∀ (s : Shared) (u : Value), BindsTo s fd ⟨[u], []⟩ [("script", u)]) ∧ ∀ base : Heap, (K w.params).In base → base.Ns mainGlobals mg → FnOk l.prog w (K w.params) mg base CX0 10 fa fd ["script"] (sp_law (K w.params))) :
    PySem.W.WalkO q loose XP YP l.row.toRowW d [] (fun f vs => PySem.call f vs) :=
  L2.walk_of (n := 63) (k := 10) (x := "script") (CX := fun _ => CX0) (sp := fun w => sp_law (K w.params)) hn (by decide) hdf ⟨rfl, by decide, by decide⟩ hY F (fun _ _ a ns hl _ hS => ⟨a, ns, rfl, hS, fun _ => rfl⟩) fun _ _ _ _ _ z => z
end W18

open PySem PySem.W PyProof.Rows
set_option maxRecDepth 100000 in
set_option maxHeartbeats 0 in
theorem PySem.Challenge.cw_sureparts_k18_whole_rows_below_and_webs_holds : PySem.Challenge.rw_sureparts_k18_whole_rows_below_and_webs.Holds := by
  w_on; o_law; k_head; (case hw => w_witness2)
  k_fill
  refine W18.walk (l := PySem.Challenge.rw_sureparts_k18_whole_rows_below_and_webs) rfl rfl (fun w h Y => PySem.W.kIn_of Y) ?F
  case F =>
    intro w mg fa h KX G hmg
    refine' W18.all_mk KX G hmg ?nC_Web ?a_Web__init_ ?pa_Web_places ?a_Web_arrows ?a_Web__eq_ ?pd_Web_places ?n_is_integer ?l_is_integer ?c_is_integer ?k_is_integer ?n_is_count ?l_is_count ?c_is_count ?k_is_count ?n__is_arrow ?l__is_arrow ?c__is_arrow ?k__is_arrow ?n__have_ring ?l__have_ring ?c__have_ring ?k__have_ring ?n__are_arrows ?l__are_arrows ?c__are_arrows ?k__are_arrows ?l_Web__init_ ?c_Web__init_ ?k_Web__init_ ?l_Web_places ?c_Web_places ?k_Web_places ?l_Web_arrows ?c_Web_arrows ?k_Web_arrows ?l_Web__eq_ ?c_Web__eq_ ?k_Web__eq_ ?n_check_web ?l_check_web ?c_check_web ?k_check_web ?n_turned_web ?l_turned_web ?c_turned_web ?k_turned_web ?n_is_row ?l_is_row ?c_is_row ?k_is_row ?n_check_row ?l_check_row ?c_check_row ?k_check_row ?n_form ?l_form ?c_form ?k_form ?n_rows_below ?l_rows_below ?c_rows_below ?k_rows_below ?n__law_pot ?l__law_pot ?c__law_pot ?k__law_pot ?n__law_draw ?l__law_draw ?c__law_draw ?k__law_draw ?n__law_order ?l__law_order ?c__law_order ?k__law_order ?n__law_web ?l__law_web ?c__law_web ?k__law_web ?n__law_row ?l__law_row ?c__law_row ?k__law_row ?n__law_below ?l__law_below ?c__law_below ?k__law_below ?n__law_other ?l__law_other ?c__law_other ?k__law_other ?n__law_parts_right ?l__law_parts_right ?c__law_parts_right ?k__law_parts_right ?n__law_alike_right ?l__law_alike_right ?c__law_alike_right ?k__law_alike_right ?n__law_right ?l__law_right ?c__law_right ?k__law_right ?n_law ?l_law ?c_law ?k_law ?pg_Web ?hd_Web ?po_Web ?sa_Web ?mkk_Web ?kc_Web ?hc1_Web ?hc4_Web ?is_Web ?ty_Web ?nf_Web_places ?nf_Web_arrows ?i_Web__init_ ?pb_Web_places ?pc_Web_places ?i_Web_arrows ?i_Web__eq_ ?z_len ?z_isinstance ?z_int ?z_bool ?z_list ?z_tuple ?z_all ?z_sum ?z_range ?z_zip ?z_abs ?z_max ?z_divmod ?g_MOST_PLACES ?g_MOST_ARROWS ?g_MOST_ROW ?g_MOST_SUM ?g_MOST_BELOW
    (case nC_Web => k_is)
    (case a_Web__init_ => k_is)
    (case pa_Web_places => k_is)
    (case a_Web_arrows => k_is)
    (case a_Web__eq_ => k_is)
    (case pd_Web_places => k_is)
    (case n_is_integer => k_is)
    (case l_is_integer => k_is)
    (case c_is_integer => k_is)
    (case k_is_integer => k_is)
    (case n_is_count => k_is)
    (case l_is_count => k_is)
    (case c_is_count => k_is)
    (case k_is_count => k_is)
    (case n__is_arrow => k_is)
    (case l__is_arrow => k_is)
    (case c__is_arrow => k_is)
    (case k__is_arrow => k_is)
    (case n__have_ring => k_is)
    (case l__have_ring => k_is)
    (case c__have_ring => k_is)
    (case k__have_ring => k_is)
    (case n__are_arrows => k_is)
    (case l__are_arrows => k_is)
    (case c__are_arrows => k_is)
    (case k__are_arrows => k_is)
    (case l_Web__init_ => k_is)
    (case c_Web__init_ => k_is)
    (case k_Web__init_ => k_is)
    (case l_Web_places => k_is)
    (case c_Web_places => k_is)
    (case k_Web_places => k_is)
    (case l_Web_arrows => k_is)
    (case c_Web_arrows => k_is)
    (case k_Web_arrows => k_is)
    (case l_Web__eq_ => k_is)
    (case c_Web__eq_ => k_is)
    (case k_Web__eq_ => k_is)
    (case n_check_web => k_is)
    (case l_check_web => k_is)
    (case c_check_web => k_is)
    (case k_check_web => k_is)
    (case n_turned_web => k_is)
    (case l_turned_web => k_is)
    (case c_turned_web => k_is)
    (case k_turned_web => k_is)
    (case n_is_row => k_is)
    (case l_is_row => k_is)
    (case c_is_row => k_is)
    (case k_is_row => k_is)
    (case n_check_row => k_is)
    (case l_check_row => k_is)
    (case c_check_row => k_is)
    (case k_check_row => k_is)
    (case n_form => k_is)
    (case l_form => k_is)
    (case c_form => k_is)
    (case k_form => k_is)
    (case n_rows_below => k_is)
    (case l_rows_below => k_is)
    (case c_rows_below => k_is)
    (case k_rows_below => k_is)
    (case n__law_pot => k_is)
    (case l__law_pot => k_is)
    (case c__law_pot => k_is)
    (case k__law_pot => k_is)
    (case n__law_draw => k_is)
    (case l__law_draw => k_is)
    (case c__law_draw => k_is)
    (case k__law_draw => k_is)
    (case n__law_order => k_is)
    (case l__law_order => k_is)
    (case c__law_order => k_is)
    (case k__law_order => k_is)
    (case n__law_web => k_is)
    (case l__law_web => k_is)
    (case c__law_web => k_is)
    (case k__law_web => k_is)
    (case n__law_row => k_is)
    (case l__law_row => k_is)
    (case c__law_row => k_is)
    (case k__law_row => k_is)
    (case n__law_below => k_is)
    (case l__law_below => k_is)
    (case c__law_below => k_is)
    (case k__law_below => k_is)
    (case n__law_other => k_is)
    (case l__law_other => k_is)
    (case c__law_other => k_is)
    (case k__law_other => k_is)
    (case n__law_parts_right => k_is)
    (case l__law_parts_right => k_is)
    (case c__law_parts_right => k_is)
    (case k__law_parts_right => k_is)
    (case n__law_alike_right => k_is)
    (case l__law_alike_right => k_is)
    (case c__law_alike_right => k_is)
    (case k__law_alike_right => k_is)
    (case n__law_right => k_is)
    (case l__law_right => k_is)
    (case c__law_right => k_is)
    (case k__law_right => k_is)
    (case n_law => k_is)
    (case l_law => k_is)
    (case c_law => k_is)
    (case k_law => k_is)
    (case pg_Web => k_is)
    (case hd_Web => k_is)
    (case po_Web => k_is)
    (case sa_Web => k_is)
    (case mkk_Web => k_is)
    (case kc_Web => k_is)
    (case hc1_Web => k_is)
    (case hc4_Web => k_is)
    (case is_Web => k_is)
    (case ty_Web => k_is)
    (case nf_Web_places => k_is)
    (case nf_Web_arrows => k_is)
    (case i_Web__init_ => k_is)
    (case pb_Web_places => k_is)
    (case pc_Web_places => k_is)
    (case i_Web_arrows => k_is)
    (case i_Web__eq_ => k_is)
    (case z_len => k_is)
    (case z_isinstance => k_is)
    (case z_int => k_is)
    (case z_bool => k_is)
    (case z_list => k_is)
    (case z_tuple => k_is)
    (case z_all => k_is)
    (case z_sum => k_is)
    (case z_range => k_is)
    (case z_zip => k_is)
    (case z_abs => k_is)
    (case z_max => k_is)
    (case z_divmod => k_is)
    (case g_MOST_PLACES => k_is)
    (case g_MOST_ARROWS => k_is)
    (case g_MOST_ROW => k_is)
    (case g_MOST_SUM => k_is)
    (case g_MOST_BELOW => k_is)

